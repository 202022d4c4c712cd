"""Numbers of rooms such that all hands enter them ascending, and rounds of rooms, where there are no such numbers."""

from roomways.kinds import is_ring_below, is_tuple_below
from roomways.together import put_in_layers, ring_within
from roomways.ways import entries, held, wish


def pairs_entered(house):
    """Return the pairs of rooms the second of which some hand enters while it holds the first one, ascending."""
    pairs = {}
    for way in house[1]:
        for place in entries(way):
            for room in held(way, place):
                pairs[(room, wish(way, place))] = True
    return tuple(sorted(pairs))


def layers_of(house):
    """Return the rooms in layers, each entered while such of earlier ones alone are held, and those that are left."""
    return put_in_layers(pairs_entered(house), tuple(range(len(house[0]))))


def numbers(house):
    """Return numbers of house, None if there are none."""
    layers, left = layers_of(house)
    if left:
        return None
    given = {room: number for number, layer in enumerate(layers) for room in layer}
    return tuple(given[room] for room in range(len(house[0])))


def numbers_error(house, value):
    """Return None if value is numbers of house, otherwise what is wrong with it."""
    if not is_tuple_below(value, len(house[0])) or len(value) != len(house[0]):
        return "form"
    for hand, way in enumerate(house[1]):
        for place in entries(way):
            if any([value[room] >= value[wish(way, place)] for room in held(way, place)]):
                return ("step", hand, place)
    return None


def room_round(house):
    """Return a round of rooms of house, None if there is none."""
    _, left = layers_of(house)
    if left:
        return ring_within(pairs_entered(house), left)
    return None


def round_error(house, value):
    """Return None if value is a round of rooms of house, otherwise what is wrong with it."""
    if not is_ring_below(value, len(house[0])):
        return "form"
    pairs = pairs_entered(house)
    for place, room in enumerate(value):
        if (value[place - 1], room) not in pairs:
            return ("pair", place)
    return None
