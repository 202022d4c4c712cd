"""What H5, H6, I and J tell, told once more: slowly, by going through rows of programs and tuples of pairs."""

import itertools

from roomways.errors import BadText, TooMany, Unfit
from tests import retold
from tests import retold_rings as rings


def enters_within(house, one, other):
    """Whether some hand enters the other room while it holds the one."""
    return any(("in", other) == way[place] and one in retold.held(way, place)
               for way in house[1] for place in range(len(way)))


def numbers_error(house, value):
    many = len(house[0])
    if not retold.tuple_of(value, many, many) or not all(retold.integer(k) and k in range(many) for k in value):
        return "form"
    for hand, way in enumerate(house[1]):
        for place, (word, room) in enumerate(way):
            if word == "in" and not all(value[other] < value[room] for other in retold.held(way, place)):
                return ("step", hand, place)
    return None


def has_numbers(house):
    many = range(len(house[0]))
    return any(numbers_error(house, value) is None for value in itertools.product(many, repeat=len(many)))


def round_error(house, value):
    rooms = range(len(house[0]))
    if type(value) is not tuple or len(value) < 2 or not all(retold.integer(k) and k in rooms for k in value):
        return "form"
    if any(value.count(room) > 1 for room in value):
        return "form"
    for k in range(len(value)):
        if not enters_within(house, value[-1] if k == 0 else value[k - 1], value[k]):
            return ("pair", k)
    return None


def walk(program, at=()):
    """All parts of a program with their spots, and those of the parts within which each lies."""
    for number, part in enumerate(program):
        spot = at + (number,)
        yield spot, part
        if part[0] == "either":
            for k, inner in enumerate(part[1]):
                yield from walk(inner, spot + (k,))
        else:
            yield from walk(part[2] if part[0] == "in" else part[1], spot)


def part_form(many, part):
    if type(part) is not tuple or len(part) not in (2, 3) or type(part[0]) is not str:
        return False
    if len(part) == 3:
        return part[0] == "in" and retold.integer(part[1]) and 0 <= part[1] < many and type(part[2]) is tuple
    if part[0] == "again":
        return type(part[1]) is tuple and part[1] != ()
    if part[0] != "either" or type(part[1]) is not tuple or len(part[1]) not in (2, 3, 4):
        return False
    return all(type(inner) is tuple for inner in part[1])


def wrong_parts(many, program, at=(), around=()):
    """What is wrong with each part of a program, those within wrong ones left out, in no special order."""
    for number, part in enumerate(program):
        spot = at + (number,)
        if not part_form(many, part):
            yield spot, "part"
            continue
        if part[0] == "in" and ("in", part[1]) in around:
            yield spot, "room"
            continue
        if len(around) > 5:
            yield spot, "deep"
            continue
        inners = [(spot, part[-1])] if part[0] != "either" else [(spot + (k,), inner) for k,
                                                                 inner in enumerate(part[1])]
        for begin, inner in inners:
            yield from wrong_parts(many, inner, begin, around + (part[:2] if part[0] == "in" else (part[0],),))


def program_error(many, value):
    if type(value) is not tuple:
        return "form"
    wrong = sorted(wrong_parts(many, value))
    if wrong:
        return (wrong[0][1], wrong[0][0])
    parts = list(walk(value))
    if len(parts) > 12:
        return "many"
    return None if any(part[0] == "in" for _, part in parts) else "idle"


def joined(rows, others, most):
    return {row + other for row in rows for other in others if len(row) + len(other) <= most}


def rows_by_part(part, spot, most):
    if part[0] == "in":
        inner = rows_by(part[2], most - 2, spot)
        return {(("in", part[1], spot),) + row + (("out", part[1], spot),) for row in inner} if most >= 2 else set()
    if part[0] == "either":
        return set().union(*[rows_by(inner, most, spot + (k,)) for k, inner in enumerate(part[1])])
    once = rows_by(part[1], most, spot)
    rows, more = {()}, {()}
    while more:
        more = joined(more, once, most) - rows
        rows |= more
    return rows


def rows_by(program, most, at=()):
    """All rows of a program of at most so many steps, each step with the spot of which it comes."""
    rows = {()}
    for number, part in enumerate(program):
        rows = joined(rows, rows_by_part(part, at + (number,), most), most)
    return rows


def plain(row):
    """The row without spots."""
    return tuple(step[:2] for step in row)


def ways_of(program, most):
    ways = sorted({plain(row) for row in rows_by(program, most) if row})
    if len(ways) > 400:
        raise TooMany(400)
    return tuple(ways)


def part_text(part):
    if part[0] == "in":
        return f"in {part[1]}" + (f" ({program_text(part[2])})" if part[2] else "")
    if part[0] == "either":
        return "either " + " or ".join(f"({program_text(inner)})" for inner in part[1])
    return f"again ({program_text(part[1])})"


def program_text(program):
    return "; ".join(map(part_text, program))


def inner_end(text):
    """How long the text within the bracket is with which text begins; None if that is not closed."""
    deep = 0
    for at, sign in enumerate(text):
        deep += (sign == "(") - (sign == ")")
        if not deep:
            return at
    return None


def cut_programs(text, between):
    """The texts within the brackets of which text is made, and what is behind them; None if it is not so made."""
    told = []
    while text.startswith("(") and inner_end(text) is not None:
        end = inner_end(text)
        told.append(text[1:end])
        text = text[end + 1:]
        if not text.startswith(between + "("):
            return told, text
        text = text[len(between):]
    return None


def read_parts(text):
    """The program of which text is the text, told by its brackets; None if none."""
    parts = []
    while text or parts:
        if text.startswith("in ") and text[3:4].isdigit():
            room, text, inner = int(text[3]), text[4:], ()
            if text.startswith(" ("):
                cut = cut_programs(text[1:], "no")
                inner = read_parts(cut[0][0]) if cut and cut[0][0] else None
                text = cut[1] if cut else text
            part = ("in", room, inner)
        elif text.startswith("either (") or text.startswith("again ("):
            word, _, rest = text.partition(" ")
            cut = cut_programs(rest, " or " if word == "either" else "no")
            if cut is None:
                return None
            inners = tuple(read_parts(inner) for inner in cut[0])
            inner, text = (inners if word == "either" else inners[0]), cut[1]
            if None in inners:
                return None
            part = (word, inner)
        else:
            return None
        if part[-1] is None:
            return None
        parts.append(part)
        if not text:
            break
        if not text.startswith("; "):
            return None
        text = text[2:]
    return tuple(parts)


def read_program(value):
    """For texts that are nested some hundreds deep at most."""
    program = read_parts(value) if type(value) is str else None
    if program is None or program_error(6, program) is not None:
        raise BadText(0)
    return program


def spots(program):
    return tuple(sorted(spot for spot, part in walk(program) if part[0] == "in"))


def check_spot(program, spot):
    if not rings_among(spot, spots(program)):
        raise Unfit()


def rings_among(value, known):
    """Whether value is one of these, of the same kinds."""
    return retold.among(value, known)


def held_at(program, spot):
    check_spot(program, spot)
    around = [(at, part) for at, part in walk(program) if part[0] == "in" and at != spot and spot[:len(at)] == at]
    return tuple(part[1] for _, part in sorted(around))


def history_at(row, place):
    """The history at a place of a row: for each held room, the outer one first, the rooms entered since."""
    told = []
    for room in retold.held(row, place):
        since = max(k for k in range(place) if row[k] == ("in", room))
        told.append(tuple(sorted({other for word, other in row[since + 1:place] if word == "in"})))
    return tuple(told)


def is_less(one, other):
    return one != other and all(set(a) <= set(b) for a, b in zip(one, other))


def least_ones(told):
    return tuple(sorted(one for one in set(told) if not any(is_less(other, one) for other in told)))


def all_histories(program, spot, most):
    """All histories of entries of spot in rows of at most so many steps."""
    told = set()
    for row in rows_by(program, most):
        told |= {history_at(plain(row), k) for k, step in enumerate(row) if step[0] == "in" and step[2] == spot}
    return told


def histories(program, spot, most=24):
    check_spot(program, spot)
    return least_ones(all_histories(program, spot, most))


def without_more(program):
    """The program with an either of nothing and its program once in the place of each again."""
    told = []
    for part in program:
        if part[0] == "in":
            told.append(("in", part[1], without_more(part[2])))
        elif part[0] == "either":
            told.append(("either", tuple(without_more(inner) for inner in part[1])))
        else:
            told.append(("either", ((), without_more(part[1]))))
    return tuple(told)


def here_within(program, spot):
    """The spot of the same part in what without_more tells."""
    told, at = (), ()
    for number in spot:
        told, at = told + (number,), at + (number,)
        found = [part for other, part in walk(program) if other == at]
        if found and found[0][0] == "again":
            told += (1,)
    return told if [part for other, part in walk(program) if other == spot][0][0] != "again" else told[:-1]


def graph(programs, choice, told):
    """The pairs of the graph of a choice and of these histories."""
    helds = [() if spot is None else held_at(program, spot) for program, spot in zip(programs, choice)]
    pairs = set()
    for k, held in enumerate(helds):
        pairs |= set(itertools.combinations(held, 2))
        for room, since in zip(held, told[k] or ()):
            pairs |= {(room, other) for other in since for j, rooms in enumerate(helds) if j != k and other in rooms}
    return pairs


def has_ring(pairs):
    """Whether these pairs lead round."""
    left = set(itertools.chain(*pairs))
    while left:
        free = {room for room in left if not any(b == room and a in left for a, b in pairs)}
        if not free:
            return True
        left -= free
    return False


def shared(programs, choice):
    """Whether some room is held at two spots of choice."""
    rooms = [room for program, spot in zip(programs, choice) if spot is not None for room in held_at(program, spot)]
    return len(rooms) > len(set(rooms))


def apart_by_fits(programs, choice, told, known):
    """Whether told is what apart_by may tell, known being the least histories of each spot of choice."""
    if type(told) is not tuple or len(told) != len(choice):
        return False
    for one, spot, rows in zip(told, choice, known):
        if spot is None and one is not None or spot is not None and one not in rows:
            return False
    return not has_ring(graph(programs, choice, told))


def has_apart(programs, choice, known):
    """Whether there are histories of which apart_by may tell, known being the least ones of each spot of choice."""
    if shared(programs, choice):
        return False
    rows = [[None] if spot is None else rows for spot, rows in zip(choice, known)]
    return any(not has_ring(graph(programs, choice, told)) for told in itertools.product(*rows))


def spot_rings(programs):
    """Whether some spots of unlike hands are a ring, no room being held at two."""
    stands = {}
    for hand, program in enumerate(programs):
        for spot, part in walk(program):
            if part[0] == "in" and held_at(program, spot):
                stands.setdefault((hand, part[1], frozenset(held_at(program, spot))), True)
    for many in range(2, len(programs) + 1):
        for row in itertools.permutations(stands, many):
            if len({hand for hand, _, _ in row}) == many and row[0] == min(row, key=lambda stand: stand[0]):
                if all(row[k - 1][1] in row[k][2] for k in range(many)):
                    if sum(len(stand[2]) for stand in row) == len(frozenset().union(*[stand[2] for stand in row])):
                        return True
    return False


def house_by(many, kinds, pairs):
    """The house in which each pair is a hand by itself, and the choice of their places."""
    return ((None,) * many, tuple(kinds[kind] for kind, _ in pairs)), tuple(place for _, place in pairs)


def supply_ring_error(many, kinds, limits, value):
    if type(value) is not tuple or len(value) < 2:
        return "form"
    for item in value:
        if not retold.tuple_of(item, 2, 2) or not all(map(retold.integer, item)) or not 0 <= item[0] < len(kinds):
            return "form"
        if item[1] not in retold.entries(kinds[item[0]]):
            return "form"
    if any(value.count(item) > 1 or item < value[0] for item in value):
        return "form"
    helds = [retold.held(kinds[kind], place) for kind, place in value]
    for k, (kind, place) in enumerate(value):
        if retold.wish(kinds[kind], place) not in (helds + helds[:1])[k + 1]:
            return ("hold", k)
    for room in range(many):
        if sum(room in held for held in helds) > 1:
            return ("twice", room)
    for kind, limit in enumerate(limits):
        if limit is not None and sum(other == kind for other, _ in value) > limit:
            return ("limit", kind)
    house, choice = house_by(many, kinds, value)
    return None if rings.comes_together(house, choice) else "together"


def longer(many, kinds, limits, row):
    """Whether row may go on: of no room held twice, no limit passed, each pair's room but the last one's held next."""
    helds = [room for kind, place in row for room in retold.held(kinds[kind], place)]
    if len(helds) > len(set(helds)) or not retold.held(kinds[row[-1][0]], row[-1][1]):
        return False
    for kind, limit in enumerate(limits):
        if limit is not None and sum(other == kind for other, _ in row) > limit:
            return False
    if len(row) < 2:
        return True
    (one, at), (other, ahead) = row[-2:]
    return retold.wish(kinds[one], at) in retold.held(kinds[other], ahead)


def supply_rings_to_be(many, kinds, limits):
    """All tuples as told but for coming together; for supplies with few of them."""
    pairs = [(kind, place) for kind, way in enumerate(kinds) for place in retold.entries(way)]
    rows, told = [(pair,) for pair in pairs if longer(many, kinds, limits, (pair,))], []
    while rows:
        for row in rows:
            (one, at), (other, ahead) = row[-1], row[0]
            if len(row) > 1 and retold.wish(kinds[one], at) in retold.held(kinds[other], ahead):
                told.append(row)
        rows = [row + (pair,) for row in rows for pair in pairs if pair > row[0] and pair not in row]
        rows = [row for row in rows if longer(many, kinds, limits, row)]
    return sorted(told, key=lambda row: (len(row), row))


def supply_ring(many, kinds, limits):
    told = supply_rings_to_be(many, kinds, limits)
    if len(told) > 400:
        raise TooMany(400)
    for row in told:
        if supply_ring_error(many, kinds, limits, row) is None:
            return row
    return None


def fewest_hands(many, kinds, limits):
    ring = supply_ring(many, kinds, limits)
    return None if ring is None else len(ring)


def drawn_part(draw, many, rooms, deep, left):
    """A drawn part of at most so many parts, and how many there are in it."""
    free = [room for room in range(many) if room not in rooms]
    word = draw.choice(["in"] * 3 + ["either", "again"])
    if deep >= 5 or left < 2:
        word = "in"
    if word == "in" and not free:
        return None, 0
    if word == "in":
        room = draw.choice(free)
        inner, taken = ((), 0)
        if deep < 5 and draw.random() < 0.75:
            inner, taken = drawn_row(draw, many, rooms + (room,), deep + 1, left - 1)
        return ("in", room, inner), taken + 1
    if word == "again":
        inner, taken = drawn_row(draw, many, rooms, deep + 1, left - 1)
        return (("again", inner), taken + 1) if inner else (None, 0)
    inners, total = [], 1
    for _ in range(draw.choice((2, 2, 2, 3, 4))):
        inner, taken = drawn_row(draw, many, rooms, deep + 1, max(0, left - total))
        inners.append(inner)
        total += taken
    return ("either", tuple(inners)), total


def drawn_row(draw, many, rooms, deep, left):
    """A drawn program of at most so many parts, perhaps of none, and how many there are in it."""
    parts, total = [], 0
    for _ in range(draw.choice((0, 1, 1, 2, 3)) if deep else draw.choice((1, 2, 3, 4))):
        if total < left:
            part, taken = drawn_part(draw, many, rooms, deep, left - total)
            if part is not None and total + taken <= left:
                parts.append(part)
                total += taken
    return tuple(parts), total


def drawn_program(draw, many, most=12):
    """A drawn program of so many rooms and at most so many parts."""
    while True:
        program, _ = drawn_row(draw, many, (), 0, most)
        if program_error(many, program) is None:
            return program


def choosing_part(draw, rooms):
    """A drawn part of one to five parts that mostly chooses."""
    lone = [(("in", room, ()),) for room in rooms]
    kind = draw.random()
    if kind < 0.55:
        programs = [draw.choice(lone) for _ in range(draw.choice((2, 2, 3)))]
        if draw.random() < 0.3:
            programs[0] = programs[0] + draw.choice(lone)
        return ("either", tuple(programs))
    if kind < 0.7:
        return ("again", draw.choice(lone))
    return draw.choice(lone)[0]


def choosing_program(draw, many, parts=12):
    """A drawn program by which rooms are held while others are chosen."""
    while True:
        names = draw.sample(range(many), min(many, draw.choice((2, 3, 3))))
        program = ()
        for k in reversed(range(len(names))):
            rooms = [room for room in range(many) if room not in names[:k + 1]] or [names[0]]
            ahead = tuple(choosing_part(draw, rooms) for _ in range(draw.randint(0, 2))) if k + 1 < len(names) else ()
            program = (("in", names[k], ahead + program),)
        if program_error(many, program) is None and len(list(walk(program))) <= parts:
            return program


def renamed_program(program, names):
    """The program with its rooms called otherwise."""
    told = []
    for part in program:
        if part[0] == "in":
            told.append(("in", names[part[1]], renamed_program(part[2], names)))
        elif part[0] == "either":
            told.append(("either", tuple(renamed_program(inner, names) for inner in part[1])))
        else:
            told.append(("again", renamed_program(part[1], names)))
    return tuple(told)
