"""Houses that are known by names."""

from roomways.bounds import MAX_HANDS
from roomways.errors import Unfit
from roomways.kinds import is_integer


def nested_way(rooms):
    """Return the way that enters these rooms in order, and leaves them in the opposite one."""
    return tuple([("in", room) for room in rooms] + [("out", room) for room in reversed(rooms)])


def table_house(many):
    """Return the house in which each hand takes the room of its number, and the next one."""
    ways = tuple(nested_way((hand, (hand + 1) % many)) for hand in range(many))
    return ((None,) * many, ways)


def handed_house(many):
    """Return the house called table, in which the last hand takes its rooms the other way round."""
    rooms, ways = table_house(many)
    return (rooms, ways[:-1] + (nested_way((0, many - 1)),))


def gated_house(many):
    """Return the house called table, with one more room around each way."""
    rooms, ways = table_house(many)
    return (rooms + (None,), tuple((("in", many),) + way + (("out", many),) for way in ways))


def row_house(many):
    """Return the house in which all take two rooms in one order."""
    return ((None, None), (nested_way((0, 1)),) * many)


def crossed_house(many):
    """Return the house in which hands take two rooms in the one or in the other order."""
    return ((None, None), tuple(nested_way((hand & 1, 1 - (hand & 1))) for hand in range(many)))


def row_of_words(many, hand, to_lesser, to_greater):
    """Return the row of a hand that does one thing for lesser hands, and one for greater ones."""
    return (to_lesser,) * hand + ("-",) + (to_greater,) * (many - hand - 1)


def others(many, hand):
    """Return all of so many hands but this one, ascending."""
    return tuple(other for other in range(many) if other != hand)


def door_house(many, to_lesser, to_greater):
    """Return the house of one door, of the table that these two words tell."""
    table = tuple(row_of_words(many, hand, to_lesser, to_greater) for hand in range(many))
    orders = tuple(others(many, hand) for hand in range(many))
    return (((table, orders),), (nested_way((0,)),) * many)


def ranked_house(many):
    """Return the house of one door at which each bows to all lesser ones."""
    return door_house(many, "bow", "stand")


def level_house(many):
    """Return the house of one door at which all are even."""
    return door_house(many, "even", "even")


def meek_house(many):
    """Return the house of one door at which all bow to all others."""
    return door_house(many, "bow", "bow")


def proud_house(many):
    """Return the house of one door at which all stand to all others."""
    return door_house(many, "stand", "stand")


MAKERS = {
    "crossed": crossed_house,
    "gated": gated_house,
    "handed": handed_house,
    "level": level_house,
    "meek": meek_house,
    "proud": proud_house,
    "ranked": ranked_house,
    "row": row_house,
    "table": table_house,
}


def known_names():
    """Return the names of all known houses, ascending."""
    return tuple(sorted(MAKERS))


def known(name, many):
    """Return the house of this name with so many hands."""
    if not isinstance(name, str) or name not in MAKERS:
        raise Unfit()
    if not is_integer(many) or not 2 <= many <= MAX_HANDS:
        raise Unfit()
    maker = MAKERS[name]
    return maker(many)
