"""The parts E3 to H4 of the document told once more, slowly and plainly: what tests hold the package against."""

from itertools import combinations, permutations

from roomways.errors import BadRun, TooMany, Unfit
from tests import retold
from tests import retold_rings as rings
from tests.retold import integer, tuple_of


def hands_in(house, value):
    return type(value) is tuple and all(integer(hand) and hand in range(len(house[1])) for hand in value)


def barred_hands(house, standing):
    return {triple[0] for triple in retold.barred(house, standing)}


def stall_error(house, value):
    if not tuple_of(value, 2, 2) or not all(hands_in(house, run) and len(run) <= 4000 for run in value):
        return "form"
    try:
        standing = retold.behind(house, retold.start(house), value[0])
    except BadRun as error:
        return ("run", error.place)
    awake = [h for h, (_, word, _) in enumerate(standing[0]) if word != "rest"]
    if not awake:
        return "rest"
    try:
        standings = retold.went(house, standing, value[1])
    except BadRun as error:
        return ("round", error.place)
    for place, word in enumerate(retold.words(house, standing, value[1])):
        if word in ("begin", "enter", "leave"):
            return ("word", place)
    if standings[-1] != standing:
        return "back"
    for h in awake:
        if h not in value[1] and not any(h in barred_hands(house, at) for at in standings):
            return ("hand", h)
    return None


def all_rings_to_be(house):
    doors = [sorted(rings.every_door_to_be(house, room)) for room in range(len(house[0]))]
    holds = sorted(rings.every_ring_to_be(house))
    if len(holds) + sum(map(len, doors)) > 400:
        raise TooMany(400)
    return holds, doors


def is_double(house, ring, value):
    if not tuple_of(value, 3, 3) or not all(map(integer, value)):
        return False
    r, i, j = value
    places = dict(ring)
    return i < j and i in places and j in places and all(r in retold.held(house[1][h], places[h]) for h in (i, j))


def is_reason(house, ring, value, room=None):
    if not tuple_of(value, 2, 2) or repr(value[0]) != repr(ring):
        return False
    if room is not None and repr(value[1]) == repr("time"):
        hands = tuple(hand for hand, _ in ring)
        return hands in rings.wait_rings(house, room) and not rings.has_order(house, room, hands)
    return is_double(house, ring, value[1])


def first_wrong(house, wanted, value, room=None):
    for k in range(max(len(wanted), len(value))):
        if k >= len(wanted) or k >= len(value) or not is_reason(house, wanted[k], value[k], room):
            return k
    return None


def never_error(house, value):
    holds, doors = all_rings_to_be(house)
    if not tuple_of(value, 2, 2) or type(value[0]) is not tuple or not tuple_of(value[1], len(doors), len(doors)):
        return "form"
    if any(type(item) is not tuple for item in value[1]):
        return "form"
    if first_wrong(house, holds, value[0]) is not None:
        return ("holds", first_wrong(house, holds, value[0]))
    for room, item in enumerate(value[1]):
        if first_wrong(house, doors[room], item, room) is not None:
            return ("doors", room, first_wrong(house, doors[room], item, room))
    return None


def ahead_of(house, room, hand):
    return [set(retold.held(house[1][hand], k)) for k, step in enumerate(house[1][hand]) if step == ("in", room)]


def yields(house, room, one, other):
    if one == other or house[0][room] is None or house[0][room][0][one][other] != "bow":
        return False
    return any(not a & b for a in ahead_of(house, room, one) for b in ahead_of(house, room, other))


def yield_in_a_ring(house, room):
    hands = range(len(house[1]))
    return any(all(yields(house, room, row[k - 1], row[k]) for k in range(many))
               for many in range(2, len(hands) + 1) for row in permutations(hands, many))


def tries(house, room, hand):
    if yield_in_a_ring(house, room):
        raise Unfit()
    entering = len(ahead_of(house, room, hand))
    others = [k for k in range(len(house[1])) if yields(house, room, hand, k)]
    return entering + bool(others) + sum(tries(house, room, k) for k in others)


def home_bound(house):
    n = len(house[1])
    if not rings.is_never_stuck(house) or any(yield_in_a_ring(house, room) for room in range(len(house[0]))):
        raise Unfit()
    total = sum(len(way) for way in house[1]) // 2
    for hand in range(n):
        for room, door in enumerate(house[0]):
            entering = len(ahead_of(house, room, hand))
            if door is None or n == 1:
                total += entering
            else:
                e = door[0][hand].count("even")
                total += entering * (e + n) + (tries(house, room, hand) - entering) * (e + n + 2)
    return total


def home_run(house, standing, picks, most=4000):
    run = ()
    while True:
        hands = [h for h in retold.movers(house, standing) if standing[0][h][1] != "rest"]
        if not hands:
            return run
        if len(run) == most:
            raise TooMany(most)
        hand = hands[picks[len(run) % len(picks)] % len(hands)]
        run += (hand,)
        standing = retold.stepped(house, standing, hand)


def free_doors(house):
    for room, door in enumerate(house[0]):
        if door is not None:
            users = retold.users(house, room)
            if any(door[0][i][j] == door[0][j][i] == "stand" for i in users for j in users):
                return False
            if rings.bow_rings(house, room):
                return False
            if any(rings.has_order(house, room, ring) for ring in rings.wait_rings(house, room)):
                return False
    return True


def check_entry(house, hand, place):
    if not integer(hand) or hand not in range(len(house[1])):
        raise Unfit()
    if not integer(place) or place not in retold.entries(house[1][hand]):
        raise Unfit()


def bows(house, room, one, other):
    return house[0][room] is not None and house[0][room][0][one][other] == "bow"


def is_next(house, link, other):
    room = house[1][link[0]][link[1]][1]
    if room in retold.held(house[1][other[0]], other[1]):
        return True
    return house[1][other[0]][other[1]] == ("in", room) and bows(house, room, link[0], other[0])


def is_end(house, link, mover):
    room = house[1][link[0]][link[1]][1]
    return mover in retold.users(house, room) and (house[0][room] is None or bows(house, room, link[0], mover))


def is_pair(house, value):
    if not tuple_of(value, 2, 2) or not integer(value[0]) or value[0] not in range(len(house[1])):
        return False
    return integer(value[1]) and value[1] in retold.entries(house[1][value[0]])


def chain_error(house, hand, place, value):
    check_entry(house, hand, place)
    if not tuple_of(value, 2, 2) or type(value[0]) is not tuple or not value[0]:
        return "form"
    links, mover = value
    if not all(is_pair(house, link) for link in links) or not integer(mover) or mover not in range(len(house[1])):
        return "form"
    if links[0] != (hand, place):
        return "first"
    hands = [link[0] for link in links] + [mover]
    if len(set(hands)) != len(hands):
        return "hands"
    for k in range(len(links) - 1):
        if not is_next(house, links[k], links[k + 1]):
            return ("link", k)
    if not is_end(house, links[-1], mover):
        return "last"
    if any(mover in retold.users(house, room) for h, k in links for room in retold.held(house[1][h], k)):
        return "mover"
    if not rings.comes_together(house, rings.choice_by(house, links)):
        return "together"
    return None


def all_chains(house, hand, place):
    """All chains for hand and place."""
    found, rows = [], [((hand, place),)]
    for row in rows:
        hands = [link[0] for link in row]
        for other in range(len(house[1])):
            if other not in hands:
                if chain_error(house, hand, place, (row, other)) is None:
                    found.append((row, other))
                pairs = [(other, k) for k in retold.entries(house[1][other])]
                rows += [row + (pair,) for pair in pairs if is_next(house, row[-1], pair)]
    return found


def check_fit(house):
    if not rings.is_never_stuck(house) or not free_doors(house):
        raise Unfit()


def can_be_kept_out(house, hand):
    if not integer(hand) or hand not in range(len(house[1])):
        raise Unfit()
    check_fit(house)
    return any(all_chains(house, hand, place) for place in retold.entries(house[1][hand]))


def keeping_error(house, hand, place, value):
    check_entry(house, hand, place)
    if not tuple_of(value, 2, 2) or not all(hands_in(house, run) for run in value):
        return "form"
    run, around = value
    try:
        standings = retold.went(house, retold.start(house), run + around)[len(run):]
    except BadRun as error:
        return ("step", error.place)
    for k, at in enumerate(standings):
        if at[0][hand][0] != place or at[0][hand][1] == "rest":
            return ("out", k)
    if around == () or standings[-1] != standings[0]:
        return "back"
    for i in range(len(house[1])):
        still = any(at[0][i][1] == "rest" or i in barred_hands(house, at) for at in standings)
        if not still and i not in around:
            return ("hand", i)
    return None


def gated(house, hands):
    rooms, ways = house
    if len(rooms) == 6 or any(len(ways[hand]) > 22 for hand in hands):
        raise Unfit()
    new = list(ways)
    for hand in hands:
        new[hand] = ((("in", len(rooms)),) + ways[hand] + (("out", len(rooms)),))
    return (rooms + (None,), tuple(new))


def all_rings(house):
    told = [("hold", ring) for ring in rings.hold_rings(house)]
    for room in range(len(house[0])):
        told += [("door", room, ring) for ring in rings.door_rings(house, room)]
    return told


def rows_of_hands(house):
    return [row for many in range(len(house[1]) + 1) for row in combinations(range(len(house[1])), many)]


def twice(ring, row):
    return len(set(dict(ring[-1])) & set(row)) >= 2


def fewest_gate(house):
    told = all_rings(house)
    return next(row for row in rows_of_hands(house) if all(twice(ring, row) for ring in told))


def gate_error(house, value):
    told = all_rings(house)
    if type(value) is not tuple:
        return "form"
    shown = {repr(ring) for ring in told}
    for k, item in enumerate(value):
        if repr(item) not in shown:
            return ("ring", k)
    many = len(fewest_gate(house))
    for row in rows_of_hands(house):
        if len(row) < many and all(twice(ring, row) for ring in value):
            return ("hands", row)
    return None
