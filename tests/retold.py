"""The document told once more, in another manner, slowly and plainly: what tests hold the package against."""

import re

from roomways.errors import BadHouse, BadRun, BadText, Unfit


def integer(value):
    return type(value) is int


def tuple_of(value, least, most):
    return type(value) is tuple and least <= len(value) <= most


def matched(way):
    """For each step that enters the place of the step that leaves, told by counting how deep it is."""
    pairs = {}
    for place, (word, room) in enumerate(way):
        if word == "in":
            depth = 0
            for later in range(place, len(way)):
                depth += 1 if way[later][0] == "in" else -1
                if depth == 0:
                    pairs[place] = later
                    break
    return pairs


def way_error(many, value):
    if not tuple_of(value, 2, 24):
        return "form"
    for k, item in enumerate(value):
        if not tuple_of(item, 2, 2) or type(item[0]) is not str or item[0] not in ("in", "out"):
            return ("step", k)
        if not integer(item[1]) or item[1] not in range(many):
            return ("step", k)
    within = ()
    for k, (word, room) in enumerate(value):
        if word == "in" and room in within:
            return ("in", k)
        if word == "out" and within[-1:] != (room,):
            return ("out", k)
        within = within + (room,) if word == "in" else within[:-1]
    return "held" if within else None


def held(way, place):
    return tuple(way[k][1] for k, end in sorted(matched(way).items()) if k < place <= end)


def wish(way, place):
    return {"in": way[place][1], "out": None}[way[place][0]]


def entries(way):
    return tuple(sorted(matched(way)))


def door_error(hands, value):
    if not tuple_of(value, 2, 2) or type(value[0]) is not tuple or type(value[1]) is not tuple:
        return "form"
    table, orders = value
    if len(table) != hands:
        return "rows"
    for i in range(hands):
        if not tuple_of(table[i], hands, hands):
            return ("row", i)
        for j in range(hands):
            word = table[i][j]
            if type(word) is not str or word not in (("-",) if i == j else ("stand", "bow", "even")):
                return ("row", i)
    uneven = [(i, j) for i in range(hands) for j in range(i) if [table[i][j], table[j][i]].count("even") == 1]
    if uneven:
        return ("even",) + min((j, i) for i, j in uneven)
    if len(orders) != hands:
        return "orders"
    for i in range(hands):
        if not tuple_of(orders[i], hands - 1, hands - 1) or not all(integer(k) for k in orders[i]):
            return ("order", i)
        if any(orders[i].count(j) != (i != j) for j in range(hands)):
            return ("order", i)
    return None


def house_error(value):
    if not tuple_of(value, 2, 2) or type(value[0]) is not tuple or type(value[1]) is not tuple:
        return "form"
    rooms, ways = value
    if len(rooms) not in range(1, 7):
        return "rooms"
    if len(ways) not in range(1, 6):
        return "hands"
    for r, room in enumerate(rooms):
        if room is not None and door_error(len(ways), room) is not None:
            return ("room", r, door_error(len(ways), room))
    for h, way in enumerate(ways):
        if way_error(len(rooms), way) is not None:
            return ("way", h, way_error(len(rooms), way))
    return None


def users(house, room):
    return tuple(h for h in range(len(house[1])) if any(step == ("in", room) for step in house[1][h]))


def house_text(house):
    lines = []
    for room in house[0]:
        if room is None:
            lines.append("plain")
        else:
            line = "door"
            for row in room[0]:
                line += " " + "".join("-" if word == "-" else word[0] for word in row)
            for order in room[1]:
                line += " " + ("".join(map(str, order)) or ".")
            lines.append(line)
    for way in house[1]:
        lines.append("way" + "".join(" " + {"in": "+", "out": "-"}[word] + str(room) for word, room in way))
    return "\n".join(lines)


def read_line(line):
    """The kind of a line, and the room or the way that it tells; None if it is none."""
    if line == "plain":
        return ("room", None)
    door = re.fullmatch(r"door((?: [-sbe]+)+)((?: (?:\.|[0-9]+))+)", line)
    if door and len(door.group(1).split()) == len(door.group(2).split()):
        word = {"-": "-", "s": "stand", "b": "bow", "e": "even"}
        rows = tuple(tuple(word[sign] for sign in row) for row in door.group(1).split())
        orders = tuple(tuple(int(sign) for sign in order if sign != ".") for order in door.group(2).split())
        return ("room", (rows, orders))
    if re.fullmatch(r"way(?: [-+][0-9])+", line):
        return ("way", tuple(("in" if sign == "+" else "out", int(r)) for sign, r in re.findall(r"([-+])(.)", line)))
    return None


def read_house(value):
    if type(value) is not str:
        raise BadText(0)
    rooms, ways = (), ()
    for k, line in enumerate(value.split("\n")):
        told = read_line(line)
        if told is None or (told[0] == "room" and ways):
            raise BadText(k)
        if told[0] == "room":
            rooms += (told[1],)
        else:
            ways += (told[1],)
    if house_error((rooms, ways)) is not None:
        raise BadHouse(house_error((rooms, ways)))
    return (rooms, ways)


def known(name, many):
    names = ("crossed", "gated", "handed", "level", "meek", "proud", "ranked", "row", "table")
    if type(name) is not str or name not in names or type(many) is not int or many not in (2, 3, 4, 5):
        raise Unfit()
    plain = {"table": many, "handed": many, "gated": many + 1, "row": 2, "crossed": 2}
    taken = []
    for i in range(many):
        rooms = {"table": [i, (i + 1) % many], "row": [0, 1], "crossed": [[0, 1], [1, 0]][i % 2]}.get(name, [0])
        if name == "handed":
            rooms = [0, many - 1] if i == many - 1 else [i, i + 1]
        if name == "gated":
            rooms = [many, i, (i + 1) % many]
        taken.append(rooms)
    ways = tuple(tuple([("in", r) for r in rooms] + [("out", r) for r in rooms[::-1]]) for rooms in taken)
    if name in plain:
        return ((None,) * plain[name], ways)
    table = [["-"] * many for _ in range(many)]
    for i in range(many):
        for j in range(many):
            if i != j:
                ranked = "stand" if i < j else "bow"
                table[i][j] = {"ranked": ranked, "level": "even", "meek": "bow", "proud": "stand"}[name]
    orders = tuple(tuple(j for j in range(many) if j != i) for i in range(many))
    return (((tuple(tuple(row) for row in table), orders),), ways)


def pairs_even(house):
    """The ascending triples of a door and two that are even there."""
    n = len(house[1])
    triples = [(r, i, j) for r, room in enumerate(house[0]) if room for j in range(n) for i in range(j)]
    return sorted((r, i, j) for r, i, j in triples if house[0][r][0][i][j] == "even")


def start(house):
    return (((0, "rest", 0),) * len(house[1]), tuple((r, i, j, i) for r, i, j in pairs_even(house)))


def all_spots(house, hand):
    """All spots that hand can have."""
    rooms, ways = house
    spots = [(0, "rest", 0)]
    for place, (word, r) in enumerate(ways[hand]):
        spots.append((place, "go", 0))
        if word == "in" and rooms[r] is not None:
            table, orders = rooms[r]
            spots += [(place, "hand", k) for k in range(table[hand].count("even"))]
            spots += [(place, "look", k) for k in range(len(ways) - 1)]
            bowed = [k for k, other in enumerate(orders[hand]) if table[hand][other] == "bow"]
            spots += [(place, low, k) for low in ("yield", "low") for k in bowed]
    return spots


def among(value, known_ones):
    """Whether value is one of these, of the same kinds."""
    return type(value) is tuple and any(repr(value) == repr(known_one) for known_one in known_ones)


def standing_error(house, value):
    if not tuple_of(value, 2, 2) or type(value[0]) is not tuple or type(value[1]) is not tuple:
        return "form"
    if len(value[0]) != len(house[1]):
        return "spots"
    for h, spot in enumerate(value[0]):
        if not among(spot, all_spots(house, h)):
            return ("spot", h)
    if len(value[1]) != len(pairs_even(house)):
        return "tokens"
    for t, (r, i, j) in enumerate(pairs_even(house)):
        if not among(value[1][t], [(r, i, j, i), (r, i, j, j)]):
            return ("token", t)
    return None


def inside(house, standing):
    rooms = [[] for _ in house[0]]
    for h, (place, _, _) in enumerate(standing[0]):
        for r in held(house[1][h], place):
            rooms[r].append(h)
    return tuple(tuple(hands) for hands in rooms)


def flag(house, standing, room, hand):
    place, word, _ = standing[0][hand]
    if hand in inside(house, standing)[room]:
        return "up"
    if house[1][hand][place] == ("in", room):
        return {"look": "up", "yield": "up", "hand": "half"}.get(word, "down")
    return "down"


def token(house, standing, room, one, other):
    for r, i, j, who in standing[1]:
        if r == room and {i, j} == {one, other}:
            return who
    return None


def move(house, standing, hand):
    """The word of the next step, the spot and the tokens behind it; None, the room and the one waited for if barred."""
    (place, word, k), tokens = standing[0][hand], standing[1]
    way, n = house[1][hand], len(house[1])
    step, r = way[place]
    if word == "rest":
        return ("begin", (0, "go", 0), tokens)
    if word == "go" and step == "out":
        return ("leave", (0, "rest", 0) if place == len(way) - 1 else (place + 1, "go", 0), tokens)
    if word == "go" and (n == 1 or house[0][r] is None):
        if inside(house, standing)[r]:
            return (None, r, min(inside(house, standing)[r]))
        return ("enter", (place + 1, "go", 0), tokens)
    table, orders = house[0][r]
    evens = [j for j in range(n) if table[hand][j] == "even"]
    if word == "go":
        return ("raise", (place, "hand" if evens else "look", 0), tokens)
    if word == "hand":
        both = sorted((hand, evens[k]))
        given = tuple(t[:3] + (evens[k],) if list(t[:3]) == [r] + both else t for t in tokens)
        return ("hand", (place, "hand", k + 1) if evens[k + 1:] else (place, "look", 0), given)
    j = orders[hand][k]
    seen = flag(house, standing, r, j)
    if word == "yield":
        return ("lower", (place, "low", k), tokens)
    if word == "low":
        return ("see", (place, "go", 0), tokens) if seen == "down" else (None, r, j)
    if seen == "down" or (j in evens and seen == "up" and token(house, standing, r, hand, j) == hand):
        return ("enter", (place + 1, "go", 0), tokens) if k == n - 2 else ("look", (place, "look", k + 1), tokens)
    if table[hand][j] == "bow":
        return ("yield", (place, "yield", k), tokens)
    return (None, r, j)


def next_step(house, standing, hand):
    return move(house, standing, hand)[0]


def stepped(house, standing, hand):
    word, spot, tokens = move(house, standing, hand)
    if word is None:
        raise Unfit()
    spots = list(standing[0])
    spots[hand] = spot
    return (tuple(spots), tokens)


def movers(house, standing):
    return tuple(h for h in range(len(house[1])) if move(house, standing, h)[0] is not None)


def barred(house, standing):
    told = [(h,) + move(house, standing, h) for h in range(len(house[1]))]
    return tuple((h, r, other) for h, word, r, other in told if word is None)


def standing_text(house, standing):
    texts = []
    for place, word, k in standing[0]:
        numbers = {"rest": [], "go": [place]}.get(word, [place, k])
        texts.append(" ".join([word] + [str(number) for number in numbers]))
    whos = " ".join(str(t[3]) for t in standing[1])
    return ", ".join(texts) + ("; " + whos if whos else "")


def read_standing(house, value):
    """The spots are found among the texts of all spots, the tokens sign by sign."""
    if type(value) is not str:
        raise BadText(0)
    pairs = pairs_even(house)
    text, whos = value, ""
    if pairs:
        if len(value) < 2 * len(pairs) + 1:
            raise BadText(0)
        text, whos = value[:-2 * len(pairs) - 1], value[-2 * len(pairs) - 1:]
    marks = ";" + " " * len(pairs) if pairs else ""
    if whos[:1] + whos[1::2] != marks or any(who not in map(str, pair[1:]) for who, pair in zip(whos[2::2], pairs)):
        raise BadText(0)
    items = text.split(", ")
    if len(items) != len(house[1]):
        raise BadText(0)
    spots = ()
    for h, item in enumerate(items):
        fitting = [spot for spot in all_spots(house, h) if standing_text(house, ((spot,), ())) == item]
        if not fitting:
            raise BadText(0)
        spots += (fitting[0],)
    return (spots, tuple(pair + (int(who),) for who, pair in zip(whos[2::2], pairs)))


def went(house, standing, run):
    """All standings of a run, the first one too."""
    standings = [standing]
    for place, hand in enumerate(run):
        if move(house, standings[-1], hand)[0] is None:
            raise BadRun(place)
        standings.append(stepped(house, standings[-1], hand))
    return standings


def behind(house, standing, run):
    return went(house, standing, run)[-1]


def words(house, standing, run):
    return tuple(move(house, at, hand)[0] for at, hand in zip(went(house, standing, run), run))


def entered(house, standing, run):
    standings = went(house, standing, run)
    told = []
    for k, hand in enumerate(run):
        rooms = [held(house[1][hand], standings[at][0][hand][0]) for at in (k, k + 1)]
        if len(rooms[1]) > len(rooms[0]):
            told.append((hand, rooms[1][-1]))
    return tuple(told)


def first_double(house, standing, run):
    doubles = [any(len(hands) > 1 for hands in inside(house, at)) for at in went(house, standing, run)]
    return doubles.index(True) if True in doubles else None
