"""Houses: rooms, plain ones and doors, and the ways of hands through them."""

from roomways.bounds import MAX_HANDS, MAX_ROOMS
from roomways.kinds import is_integer, is_pair_of_tuples, is_tuple_of
from roomways.ways import way_error

WORDS = ("stand", "bow", "even")


def is_row(hands, hand, value):
    """Tell whether value is the row of hand in the table of a door."""
    if not is_tuple_of(value, hands) or value[hand] != "-":
        return False
    return all([word in WORDS for word in value[:hand] + value[hand + 1:]])


def evenness_error(table):
    """Return the first two of which just one is even with the other, None if there are none."""
    for one in range(len(table)):
        for other in range(one + 1, len(table)):
            if (table[one][other] == "even") != (table[other][one] == "even"):
                return ("even", one, other)
    return None


def table_error(hands, table):
    """Return what is wrong with the table of a door, None if nothing is."""
    if len(table) != hands:
        return "rows"
    for hand, row in enumerate(table):
        if not is_row(hands, hand, row):
            return ("row", hand)
    return evenness_error(table)


def is_order(hands, hand, value):
    """Tell whether value is an order in which hand looks at all others."""
    if not is_tuple_of(value, hands - 1) or not all([is_integer(other) for other in value]):
        return False
    return sorted(value) == [other for other in range(hands) if other != hand]


def orders_error(hands, orders):
    """Return what is wrong with the orders of a door, None if nothing is."""
    if len(orders) != hands:
        return "orders"
    for hand, order in enumerate(orders):
        if not is_order(hands, hand, order):
            return ("order", hand)
    return None


def door_error(hands, value):
    """Return None if value is a door for so many hands, otherwise what is wrong with it."""
    if not is_pair_of_tuples(value):
        return "form"
    table, orders = value
    error = table_error(hands, table)
    if error is None:
        error = orders_error(hands, orders)
    return error


def rooms_error(rooms, hands):
    """Return the first room that is none for so many hands, and why, None if there is none."""
    for room, made in enumerate(rooms):
        error = None
        if made is not None:
            error = door_error(hands, made)
        if error is not None:
            return ("room", room, error)
    return None


def ways_error(many, ways):
    """Return the first hand whose way is none through so many rooms, and why, None if there is none."""
    for hand, way in enumerate(ways):
        error = way_error(many, way)
        if error is not None:
            return ("way", hand, error)
    return None


def house_error(value):
    """Return None if value is a house, otherwise what is wrong with it."""
    if not is_pair_of_tuples(value):
        return "form"
    rooms, ways = value
    if not 1 <= len(rooms) <= MAX_ROOMS:
        return "rooms"
    if not 1 <= len(ways) <= MAX_HANDS:
        return "hands"
    error = rooms_error(rooms, len(ways))
    if error is None:
        error = ways_error(len(rooms), ways)
    return error


def users(house, room):
    """Return all hands whose way enters room, ascending."""
    return tuple(hand for hand, way in enumerate(house[1]) if ("in", room) in way)
