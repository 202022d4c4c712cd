"""The parts C, D and E2 of the document told once more, slowly and plainly: what tests hold the package against."""

from functools import lru_cache
from itertools import permutations, product

from roomways.errors import TooMany
from tests import retold
from tests.retold import integer, tuple_of


def chosen(choice):
    return [hand for hand, place in enumerate(choice) if place is not None]


def holding(house, choice):
    """For each room the chosen hands that hold it."""
    held = {hand: retold.held(house[1][hand], choice[hand]) for hand in chosen(choice)}
    return [[hand for hand in held if room in held[hand]] for room in range(len(house[0]))]


def kept(house, choice):
    return [room for room, hands in enumerate(holding(house, choice)) if hands]


def apart(house, choice):
    return all(len(hands) < 2 for hands in holding(house, choice))


def has_arc(house, choice, a, b):
    for hand in chosen(choice):
        way, place = house[1][hand], choice[hand]
        rooms = retold.held(way, place)
        if a not in rooms:
            continue
        if b in rooms[rooms.index(a):]:
            return True
        since = way[:place][::-1]
        since = since[:since.index(("in", a))]
        if ("in", b) in since and ("out", b) in since and [k for k in holding(house, choice)[b] if k != hand]:
            return True
    return False


def arcs(house, choice):
    rooms = kept(house, choice)
    return tuple((a, b) for a in rooms for b in rooms if a != b and has_arc(house, choice, a, b))


def is_order(pairs, row):
    return all(row.index(a) < row.index(b) for a, b in pairs)


def comes_together(house, choice):
    pairs = arcs(house, choice)
    return apart(house, choice) and any(is_order(pairs, row) for row in permutations(kept(house, choice)))


def order_error(house, choice, value):
    if not apart(house, choice):
        return "apart"
    if type(value) is not tuple:
        return "form"
    rooms = kept(house, choice)
    for k, item in enumerate(value):
        if not integer(item) or item not in rooms or item in value[:k]:
            return ("room", k)
    lacking = [room for room in rooms if room not in value]
    if lacking:
        return ("lack", lacking[0])
    backwards = [(a, b) for a, b in arcs(house, choice) if value.index(b) < value.index(a)]
    return ("arc",) + backwards[0] if backwards else None


def bar_error(house, choice, value):
    rooms, hands = range(len(house[0])), range(len(house[1]))
    if tuple_of(value, 4, 4) and type(value[0]) is str and value[0] == "room" and all(map(integer, value[1:])):
        _, r, i, j = value
        if r in rooms and i in hands and j in hands and i < j:
            wrong = [hand for hand in (i, j) if hand not in holding(house, choice)[r]]
            return ("hand", wrong[0]) if wrong else None
    if not tuple_of(value, 2, 2) or type(value[0]) is not str or value[0] != "ring":
        return "form"
    row = value[1]
    if not tuple_of(row, 2, 6) or not all(integer(r) and r in rooms for r in row) or len(set(row)) < len(row):
        return "form"
    pairs = arcs(house, choice)
    wrong = [k for k in range(len(row)) if (row[k], (row + row)[k + 1]) not in pairs]
    return ("arc", wrong[0]) if wrong else None


def hands_in_rings(hands):
    """All rings of these hands."""
    rows = [row for many in range(2, len(hands) + 1) for row in permutations(hands, many)]
    return sorted(row for row in rows if row[0] == min(row))


def after(ring, item):
    return (ring + ring)[ring.index(item) + 1]


def choice_by(house, ring):
    return tuple(dict(ring).get(hand) for hand in range(len(house[1])))


def few(rings):
    if len(rings) > 400:
        raise TooMany(400)
    return tuple(sorted(rings))


def every_ring_to_be(house):
    """All rings-to-be, however many."""
    at = [(hand, k) for hand, way in enumerate(house[1]) for k, (word, _) in enumerate(way) if word == "in"]
    wish = {pair: house[1][pair[0]][pair[1]][1] for pair in at}
    held = {pair: retold.held(house[1][pair[0]], pair[1]) for pair in at}
    rings, rows = [], [(pair,) for pair in at if held[pair]]
    for row in rows:
        if wish[row[-1]] in held[row[0]]:
            rings.append(row)
        hands = [hand for hand, _ in row]
        rows += [row + (pair,) for pair in at
                 if pair[0] > hands[0] and pair[0] not in hands and wish[row[-1]] in held[pair]]
    return rings


def rings_to_be(house):
    return few(every_ring_to_be(house))


def hold_rings(house):
    return tuple(ring for ring in rings_to_be(house) if comes_together(house, choice_by(house, ring)))


def rings_by(house, room, words):
    if house[0][room] is None:
        return ()
    rings = hands_in_rings(retold.users(house, room))
    return tuple(ring for ring in rings if all(house[0][room][0][i][after(ring, i)] in words for i in ring))


def bow_rings(house, room):
    return rings_by(house, room, ["bow"])


def wait_rings(house, room):
    return rings_by(house, room, ["stand", "even"])


def even(house, room, i, j):
    return house[0][room][0][i][j] == "even"


def own(house, room, ring, i):
    told = [("raise", i)]
    told += [("hand", i, j) for j in sorted(ring) if j != i and even(house, room, i, j)]
    for j in house[0][room][1][i]:
        if j == after(ring, i):
            break
        if j in ring:
            told.append(("look", i, j))
    return told


def events(house, room, ring):
    return tuple(sorted(sum((own(house, room, ring, i) for i in ring), [])))


def look_fits(house, room, row, look):
    _, i, j = look
    at = row.index
    if at(look) < at(("raise", j)):
        return True
    if not even(house, room, i, j) or at(("hand", i, j)) > at(("hand", j, i)):
        return False
    return all(at(event) < at(look) for event in row if event[:2] == ("hand", j))


def token_fits(house, room, row, i, j):
    return not even(house, room, i, j) or row.index(("hand", j, i)) < row.index(("hand", i, j))


def time_error(house, room, ring, value):
    if type(value) is not tuple:
        return "form"
    told = events(house, room, ring)
    for k, item in enumerate(value):
        if repr(item) not in map(repr, told) or item in value[:k]:
            return ("event", k)
    lacking = [event for event in told if event not in value]
    if lacking:
        return ("lacks", lacking[0])
    for k, item in enumerate(value):
        left = [event for event in own(house, room, ring, item[1]) if event not in value[:k]]
        if item != left[0]:
            return ("own", k)
    for k, item in enumerate(value):
        if item[0] == "look" and not look_fits(house, room, value, item):
            return ("look", k)
    for i in sorted(ring):
        if not token_fits(house, room, value, i, after(ring, i)):
            return ("token", i)
    return None


def woven(rows):
    """All rows of the items of these rows, each of these in order."""
    if not any(rows):
        yield ()
    for k, row in enumerate(rows):
        if row:
            for rest in woven(rows[:k] + [row[1:]] + rows[k + 1:]):
                yield (row[0],) + rest


def has_order_by_all(house, room, ring):
    """Whether one of all orders of the events, each hand's as told, is an order of time."""
    rows = [own(house, room, ring, i) for i in ring]
    looks = [event for row in rows for event in row if event[0] == "look"]
    for row in woven(rows):
        if all(token_fits(house, room, row, i, after(ring, i)) for i in ring):
            if all(look_fits(house, room, row, look) for look in looks):
                return True
    return False


def has_order(house, room, ring):
    """The same, going through what can have come, with who of two handed over first."""
    return has_order_at(house[0][room], ring)


@lru_cache(None)
def has_order_at(door, ring):
    house, room = ((door,), ()), 0
    rows = [own(house, room, ring, i) for i in ring]
    looked = {event[1:] for row in rows for event in row if event[0] == "look"}
    seen, left = set(), [((0,) * len(ring), frozenset())]
    while left:
        counts, first = left.pop()
        if (counts, first) in seen:
            continue
        seen.add((counts, first))
        come = {event for row, many in zip(rows, counts) for event in row[:many]}
        if len(come) == sum(map(len, rows)):
            return True
        late = [(i, j) for i, j in looked if ("raise", j) in come and not come & {("look", i, j)} and (i, j) not in first]
        if any(not even(house, room, i, j) or ("hand", j, i) in come for i, j in late):
            continue
        for k, row in enumerate(rows):
            if counts[k] == len(row):
                continue
            event, firsts = row[counts[k]], first
            if event[0] == "hand":
                _, i, j = event
                if j == after(ring, i) and ("hand", j, i) not in come:
                    continue
                if ("hand", j, i) not in come and (i, j) in looked:
                    firsts = first | {(i, j)}
            if event[0] == "look" and ("raise", event[2]) in come:
                _, i, j = event
                handed = [other for other in sum(rows, []) if other[:2] == ("hand", j)]
                if (i, j) not in first or not come.issuperset(handed):
                    continue
            left.append((counts[:k] + (counts[k] + 1,) + counts[k + 1:], firsts))
    return False


def every_door_to_be(house, room):
    """All door rings-to-be, however many."""
    ahead = [[k for k, step in enumerate(way) if step == ("in", room)] for way in house[1]]
    rings = []
    for hands in bow_rings(house, room) + wait_rings(house, room):
        rings += [tuple(zip(hands, places)) for places in product(*[ahead[hand] for hand in hands])]
    return rings


def doors_to_be(house, room):
    return few(every_door_to_be(house, room))


def door_rings(house, room):
    lasting = bow_rings(house, room) + tuple(ring for ring in wait_rings(house, room) if has_order(house, room, ring))
    return tuple(ring for ring in doors_to_be(house, room) if tuple(hand for hand, _ in ring) in lasting
                 and comes_together(house, choice_by(house, ring)))


def stuck_ring(house):
    """For houses with few rings alone."""
    rings = [(len(ring), ring) for ring in hold_rings(house)]
    if rings:
        return ("hold", min(rings)[1])
    doors = [(len(ring), room, ring) for room in range(len(house[0])) for ring in door_rings(house, room)]
    return ("door",) + min(doors)[1:] if doors else None


def is_never_stuck(house):
    return stuck_ring(house) is None
