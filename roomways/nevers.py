"""Papers that a house never gets stuck."""

from roomways.doors import doors_to_be, hands_of, many_doors_to_be, timed_rings, wait_rings
from roomways.holds import refuse_more_rings, rings_to_be
from roomways.kinds import is_integer, is_pair_of_tuples, is_same, is_tuple_of
from roomways.stuckness import is_never_stuck
from roomways.together import choice_of, first_shared, keepers


def refuse_many(house):
    """Raise TooMany if house has more rings-to-be and door rings-to-be of all rooms together than may be."""
    many = len(rings_to_be(house))
    refuse_more_rings(many + sum([many_doors_to_be(house, room) for room in range(len(house[0]))]))


def untimed_rings(house, room):
    """Return the wait rings of a room that have no order of time, ascending."""
    timed = timed_rings(house, room)
    return tuple(ring for ring in wait_rings(house, room) if ring not in timed)


def double_of(house, ring):
    """Return the least triple of a room and two hands of ring that both hold it at their places, None if none."""
    return first_shared(house, choice_of(house, ring))


def holds_paper(house):
    """Return for each ring-to-be of house, ascending, the pair of it and a triple that shows that it is none."""
    return tuple((ring, double_of(house, ring)) for ring in rings_to_be(house))


def doors_paper(house, room):
    """Return for each door ring-to-be of a room, ascending, the pair of it and what shows that it is none."""
    untimed = untimed_rings(house, room)
    pairs = []
    for ring in doors_to_be(house, room):
        if hands_of(ring) in untimed:
            pairs.append((ring, "time"))
        else:
            pairs.append((ring, double_of(house, ring)))
    return tuple(pairs)


def never(house):
    """Return a paper that house never gets stuck, None if it can."""
    if not is_never_stuck(house):
        return None
    refuse_many(house)
    return (holds_paper(house), tuple(doors_paper(house, room) for room in range(len(house[0]))))


def is_double(house, ring, value):
    """Tell whether value is a triple of a room and two hands of ring, the lesser one first, that both hold it."""
    if not is_tuple_of(value, 3) or not all([is_integer(item) for item in value]):
        return False
    room, one, other = value
    hands = keepers(house, choice_of(house, ring), room)
    return one < other and one in hands and other in hands


def shows(house, ring, untimed, value):
    """Tell whether value is the pair of ring and what shows that it is none, untimed being of no order of time."""
    if not is_tuple_of(value, 2) or not is_same(value[0], ring):
        return False
    if value[1] == "time":
        return hands_of(ring) in untimed
    return is_double(house, ring, value[1])


def first_unshown(house, rings, untimed, value):
    """Return the first place at which value has not just what shows that this one of rings is none, None if none."""
    for place, ring in enumerate(rings):
        if place >= len(value) or not shows(house, ring, untimed, value[place]):
            return place
    if len(value) > len(rings):
        return len(rings)
    return None


def is_paper_form(house, value):
    """Tell whether value is a pair of tuples, the second one of a tuple for each room."""
    if not is_pair_of_tuples(value) or len(value[1]) != len(house[0]):
        return False
    return all([isinstance(item, tuple) for item in value[1]])


def never_error(house, value):
    """Return None if value is a paper that house never gets stuck, otherwise what is wrong with it."""
    refuse_many(house)
    if not is_paper_form(house, value):
        return "form"
    place = first_unshown(house, rings_to_be(house), (), value[0])
    if place is not None:
        return ("holds", place)
    for room, item in enumerate(value[1]):
        place = first_unshown(house, doors_to_be(house, room), untimed_rings(house, room), item)
        if place is not None:
            return ("doors", room, place)
    return None
