"""Gates: one more room around the whole ways of some hands, so that nobody gets stuck."""

from roomways.bounds import MAX_ROOMS, MAX_STEPS
from roomways.doors import door_rings, hands_of
from roomways.errors import Unfit
from roomways.holds import hold_rings
from roomways.kinds import is_below, is_integer, is_tuple_of


def gated(house, hands):
    """Return the house with one more plain room around the ways of these hands."""
    rooms, ways = house
    gate = len(rooms)
    if gate == MAX_ROOMS or any([len(ways[hand]) > MAX_STEPS - 2 for hand in hands]):
        raise Unfit()
    led = [(("in", gate),) + way + (("out", gate),) if hand in hands else way for hand, way in enumerate(ways)]
    return (rooms + (None,), tuple(led))


def rings_of(house):
    """Return all rings of house, those of holds first."""
    rings = [("hold", ring) for ring in hold_rings(house)]
    for room in range(len(house[0])):
        rings.extend([("door", room, ring) for ring in door_rings(house, room)])
    return rings


def has_two(ring, hands):
    """Tell whether a ring of house has two of these hands or more."""
    return len([hand for hand in hands_of(ring[-1]) if hand in hands]) > 1


def rows_of(hands, many):
    """Return all ascending tuples of so many of these hands, which ascend, ascending."""
    if many == 0:
        return [()]
    rows = []
    for place, hand in enumerate(hands):
        rows.extend([(hand,) + row for row in rows_of(hands[place + 1:], many - 1)])
    return rows


def all_rows(house):
    """Return all ascending tuples of hands of house, the shorter ones first, then the lesser ones."""
    hands = tuple(range(len(house[1])))
    return [row for many in range(len(hands) + 1) for row in rows_of(hands, many)]


def fewest_of(house, rings):
    """Return the fewest hands, and the least ones, such that each of these rings has two of them."""
    return [row for row in all_rows(house) if all([has_two(ring, row) for ring in rings])][0]


def fewest_gate(house):
    """Return the fewest hands, and among these the least ones, that have to pass one gate so that nobody gets stuck."""
    return fewest_of(house, rings_of(house))


def fewer_rows(house, rings):
    """Return all ascending tuples of fewer hands than those that have two of each of these rings, in order."""
    many = len(fewest_of(house, rings))
    return [row for row in all_rows(house) if len(row) < many]


def gate_paper(house):
    """Return a gate paper of house."""
    rings = rings_of(house)
    paper = []
    for row in fewer_rows(house, rings):
        if all([has_two(ring, row) for ring in paper]):
            paper.append([ring for ring in rings if not has_two(ring, row)][0])
    return tuple(paper)


def is_pairs_form(value):
    """Tell whether value is a tuple of pairs of integers."""
    if not isinstance(value, tuple) or not all([is_tuple_of(item, 2) for item in value]):
        return False
    return all([is_integer(one) and is_integer(other) for one, other in value])


def is_ring_form(house, value):
    """Tell whether value has the form of a ring of house."""
    if is_tuple_of(value, 2):
        return value[0] == "hold" and is_pairs_form(value[1])
    if is_tuple_of(value, 3):
        return value[0] == "door" and is_below(value[1], len(house[0])) and is_pairs_form(value[2])
    return False


def gate_error(house, value):
    """Return None if value is a gate paper of house, otherwise what is wrong with it."""
    rings = rings_of(house)
    known = {ring: True for ring in rings}
    if not isinstance(value, tuple):
        return "form"
    for place, item in enumerate(value):
        if not is_ring_form(house, item) or item not in known:
            return ("ring", place)
    for row in fewer_rows(house, rings):
        if all([has_two(ring, row) for ring in value]):
            return ("hands", row)
    return None
