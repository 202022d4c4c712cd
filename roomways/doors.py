"""Rings of hands that wait for one another at one door."""

from roomways.holds import hand_rings, refuse_more_rings, ring_comes_together
from roomways.houses import users
from roomways.times import next_one, order_of_time
from roomways.ways import entries, wish


def word_rings(house, room, told):
    """Return all rings of hands whose ways enter room, each doing there what is told for its next one, ascending."""
    if house[0][room] is None:
        return ()
    table, _ = house[0][room]
    rings = hand_rings(users(house, room))
    return tuple(ring for ring in rings if all([table[hand][next_one(ring, hand)] in told for hand in ring]))


def bow_rings(house, room):
    """Return all bow rings of a room, ascending."""
    return word_rings(house, room, ("bow",))


def wait_rings(house, room):
    """Return all wait rings of a room, ascending."""
    return word_rings(house, room, ("stand", "even"))


def timed_rings(house, room):
    """Return all wait rings of a room that have an order of time, ascending."""
    return tuple(ring for ring in wait_rings(house, room) if order_of_time(house, room, ring) is not None)


def places_ahead(house, room, hand):
    """Return the places of hand at which it wishes room, ascending."""
    way = house[1][hand]
    return tuple(place for place in entries(way) if wish(way, place) == room)


def many_doors_to_be(house, room):
    """Return how many door rings-to-be room has."""
    many = 0
    for ring in bow_rings(house, room) + wait_rings(house, room):
        product = 1
        for hand in ring:
            product = product * len(places_ahead(house, room, hand))
        many += product
    return many


def placed(house, room, ring):
    """Return the rings of pairs of the hands of ring, each with a place at which it wishes room."""
    paths = [()]
    for hand in ring:
        paths = [path + ((hand, place),) for path in paths for place in places_ahead(house, room, hand)]
    return paths


def hands_of(ring):
    """Return the hands of a ring of pairs, in its order."""
    return tuple(hand for hand, _ in ring)


def doors_to_be(house, room):
    """Return all door rings-to-be of a room, ascending."""
    refuse_more_rings(many_doors_to_be(house, room))
    hands = bow_rings(house, room) + wait_rings(house, room)
    return tuple(sorted([pairs for ring in hands for pairs in placed(house, room, ring)]))


def door_rings(house, room):
    """Return all door rings of a room, ascending."""
    rings = doors_to_be(house, room)
    lasting = bow_rings(house, room) + timed_rings(house, room)
    return tuple(ring for ring in rings if hands_of(ring) in lasting and ring_comes_together(house, ring))
