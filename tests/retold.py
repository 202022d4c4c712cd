"""The document told once more, in another manner, slowly and plainly: what tests hold the package against."""

import re

from roomways.errors import BadHouse, BadText


def integer(value):
    return type(value) is int


def tuple_of(value, least, most):
    return type(value) is tuple and least <= len(value) <= most


def matched(way):
    """For each step that enters the place of the step that leaves, told by counting how deep it is."""
    pairs = {}
    for place, (word, room) in enumerate(way):
        if word == "in":
            depth = 0
            for later in range(place, len(way)):
                depth += 1 if way[later][0] == "in" else -1
                if depth == 0:
                    pairs[place] = later
                    break
    return pairs


def way_error(many, value):
    if not tuple_of(value, 2, 24):
        return "form"
    for k, item in enumerate(value):
        if not tuple_of(item, 2, 2) or type(item[0]) is not str or item[0] not in ("in", "out"):
            return ("step", k)
        if not integer(item[1]) or item[1] not in range(many):
            return ("step", k)
    within = ()
    for k, (word, room) in enumerate(value):
        if word == "in" and room in within:
            return ("in", k)
        if word == "out" and within[-1:] != (room,):
            return ("out", k)
        within = within + (room,) if word == "in" else within[:-1]
    return "held" if within else None


def held(way, place):
    return tuple(way[k][1] for k, end in sorted(matched(way).items()) if k < place <= end)


def wish(way, place):
    return {"in": way[place][1], "out": None}[way[place][0]]


def entries(way):
    return tuple(sorted(matched(way)))


def door_error(hands, value):
    if not tuple_of(value, 2, 2) or type(value[0]) is not tuple or type(value[1]) is not tuple:
        return "form"
    table, orders = value
    if len(table) != hands:
        return "rows"
    for i in range(hands):
        if not tuple_of(table[i], hands, hands):
            return ("row", i)
        for j in range(hands):
            word = table[i][j]
            if type(word) is not str or word not in (("-",) if i == j else ("stand", "bow", "even")):
                return ("row", i)
    uneven = [(i, j) for i in range(hands) for j in range(i) if [table[i][j], table[j][i]].count("even") == 1]
    if uneven:
        return ("even",) + min((j, i) for i, j in uneven)
    if len(orders) != hands:
        return "orders"
    for i in range(hands):
        if not tuple_of(orders[i], hands - 1, hands - 1) or not all(integer(k) for k in orders[i]):
            return ("order", i)
        if any(orders[i].count(j) != (i != j) for j in range(hands)):
            return ("order", i)
    return None


def house_error(value):
    if not tuple_of(value, 2, 2) or type(value[0]) is not tuple or type(value[1]) is not tuple:
        return "form"
    rooms, ways = value
    if len(rooms) not in range(1, 7):
        return "rooms"
    if len(ways) not in range(1, 6):
        return "hands"
    for r, room in enumerate(rooms):
        if room is not None and door_error(len(ways), room) is not None:
            return ("room", r, door_error(len(ways), room))
    for h, way in enumerate(ways):
        if way_error(len(rooms), way) is not None:
            return ("way", h, way_error(len(rooms), way))
    return None


def users(house, room):
    return tuple(h for h in range(len(house[1])) if any(step == ("in", room) for step in house[1][h]))


def house_text(house):
    lines = []
    for room in house[0]:
        if room is None:
            lines.append("plain")
        else:
            line = "door"
            for row in room[0]:
                line += " " + "".join("-" if word == "-" else word[0] for word in row)
            for order in room[1]:
                line += " " + ("".join(map(str, order)) or ".")
            lines.append(line)
    for way in house[1]:
        lines.append("way" + "".join(" " + {"in": "+", "out": "-"}[word] + str(room) for word, room in way))
    return "\n".join(lines)


def read_line(line):
    """The kind of a line, and the room or the way that it tells; None if it is none."""
    if line == "plain":
        return ("room", None)
    door = re.fullmatch(r"door((?: [-sbe]+)+)((?: (?:\.|[0-9]+))+)", line)
    if door and len(door.group(1).split()) == len(door.group(2).split()):
        word = {"-": "-", "s": "stand", "b": "bow", "e": "even"}
        rows = tuple(tuple(word[sign] for sign in row) for row in door.group(1).split())
        orders = tuple(tuple(int(sign) for sign in order if sign != ".") for order in door.group(2).split())
        return ("room", (rows, orders))
    if re.fullmatch(r"way(?: [-+][0-9])+", line):
        return ("way", tuple(("in" if sign == "+" else "out", int(r)) for sign, r in re.findall(r"([-+])(.)", line)))
    return None


def read_house(value):
    if type(value) is not str:
        raise BadText(0)
    rooms, ways = (), ()
    for k, line in enumerate(value.split("\n")):
        told = read_line(line)
        if told is None or (told[0] == "room" and ways):
            raise BadText(k)
        if told[0] == "room":
            rooms += (told[1],)
        else:
            ways += (told[1],)
    if house_error((rooms, ways)) is not None:
        raise BadHouse(house_error((rooms, ways)))
    return (rooms, ways)
