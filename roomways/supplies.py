"""Supplies: any number of hands of told kinds, and the rings by which they get stuck."""

from roomways.doors import hands_of
from roomways.holds import refuse_more_rings, wishes_of
from roomways.kinds import is_below, is_tuple_of
from roomways.together import comes_together, first_shared
from roomways.ways import held, wish


def supply_house(many, kinds, hands):
    """Return the house of so many plain rooms and of one hand of each of these kinds."""
    return ((None,) * many, tuple(kinds[kind] for kind in hands))


def places_of(ring):
    """Return the places of a ring of pairs, in its order."""
    return tuple(place for _, place in ring)


def ring_house(many, kinds, ring):
    """Return the house in which each pair of ring is a hand by itself."""
    return supply_house(many, kinds, hands_of(ring))


def stands_of(kinds):
    """Return for each pair of a mask of rooms held and a room wished the pairs of a kind and a place where it is so."""
    stands = {}
    for kind, way in enumerate(kinds):
        for place, room, mask in wishes_of(way):
            if mask:
                stands.setdefault((mask, room), []).append((kind, place))
    return stands


def rings_from(stands, row, kept):
    """Return all rings that begin with row, a row of keys of stands that hold the rooms of the mask kept, each once."""
    _, room = row[-1]
    if row[0][0] >> room & 1:
        return [row]
    rings = []
    for key in stands:
        if key > row[0] and key[0] >> room & 1 and not key[0] & kept:
            rings.extend(rings_from(stands, row + (key,), kept | key[0]))
    return rings


def may_come(limits, path, kind):
    """Tell whether one more pair of this kind is within its limit."""
    limit = limits[kind]
    return limit is None or len([other for other, _ in path if other == kind]) < limit


def turned(ring):
    """Return ring with its least item first."""
    place = ring.index(min(ring))
    return ring[place:] + ring[:place]


def add_rings(rings, rows, limits, path):
    """Add to rings those that go on behind path by a pair of each of these rows."""
    if not rows:
        rings.append(turned(path))
        refuse_more_rings(len(rings))
        return
    for pair in rows[0]:
        if may_come(limits, path, pair[0]):
            add_rings(rings, rows[1:], limits, path + (pair,))


def supply_rings_to_be(kinds, limits):
    """Return all tuples that are supply rings but for coming together, the shorter ones first, then the lesser ones."""
    stands = stands_of(kinds)
    rings = []
    # Places at which the same is held and wished stand for one another in each ring: so, going by keys, few paths lead
    # nowhere, however many places there are.
    for key in stands:
        for row in rings_from(stands, (key,), key[0]):
            add_rings(rings, [stands[other] for other in row], limits, ())
    return [ring for _, ring in sorted([(len(ring), ring) for ring in rings])]


def supply_ring(many, kinds, limits):
    """Return the supply ring of the fewest pairs, and among these the least one, None if there is none."""
    for ring in supply_rings_to_be(kinds, limits):
        if comes_together(ring_house(many, kinds, ring), places_of(ring)):
            return ring
    return None


def is_entry(kinds, value):
    """Tell whether value is a pair of a kind and a place of its way ahead of a step that enters a room."""
    if not is_tuple_of(value, 2) or not is_below(value[0], len(kinds)):
        return False
    way = kinds[value[0]]
    return is_below(value[1], len(way)) and wish(way, value[1]) is not None


def is_form(kinds, value):
    """Tell whether value is a tuple of two entries of kinds or more, each once, the least one first."""
    if not isinstance(value, tuple) or not all([is_entry(kinds, item) for item in value]):
        return False
    return len(value) > 1 and len(set(value)) == len(value) and value[0] == min(value)


def first_unheld(kinds, ring):
    """Return the place of the first pair of ring the room of which is not held at the next one, None if none."""
    for number, (kind, place) in enumerate(ring):
        other, ahead = ring[(number + 1) % len(ring)]
        if wish(kinds[kind], place) not in held(kinds[other], ahead):
            return number
    return None


def first_beyond(ring, limits):
    """Return the least kind of which there are more pairs in ring than its limit, None if there is none."""
    hands = hands_of(ring)
    for kind, limit in enumerate(limits):
        if limit is not None and hands.count(kind) > limit:
            return kind
    return None


def supply_ring_error(many, kinds, limits, value):
    """Return None if value is a supply ring, otherwise what is wrong with it."""
    if not is_form(kinds, value):
        return "form"
    number = first_unheld(kinds, value)
    if number is not None:
        return ("hold", number)
    house = ring_house(many, kinds, value)
    shared = first_shared(house, places_of(value))
    if shared is not None:
        return ("twice", shared[0])
    kind = first_beyond(value, limits)
    if kind is not None:
        return ("limit", kind)
    if not comes_together(house, places_of(value)):
        return "together"
    return None


def fewest_hands(many, kinds, limits):
    """Return with how many hands, at the least, the supply can get stuck, None if it cannot."""
    ring = supply_ring(many, kinds, limits)
    if ring is None:
        return None
    return len(ring)
