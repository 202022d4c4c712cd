"""Rings of hands each of which wishes a room that the next one holds."""

from roomways.bounds import MAX_RINGS
from roomways.errors import TooMany
from roomways.together import choice_of, comes_together
from roomways.ways import entries, held, wish


def rows_of_hands(hands, row):
    """Return row, and all longer rows that go on with greater ones of hands than its first one, ascending."""
    rows = [row]
    for hand in hands:
        if hand > row[0] and hand not in row:
            rows.extend(rows_of_hands(hands, row + (hand,)))
    return rows


def hand_rings(hands):
    """Return all rings of these hands, which ascend, ascending."""
    return tuple(row for hand in hands for row in rows_of_hands(hands, (hand,)) if len(row) > 1)


def refuse_more_rings(many):
    """Raise TooMany if so many rings are more than this package tells."""
    if many > MAX_RINGS:
        raise TooMany(MAX_RINGS)


def mask_of(rooms):
    """Return the integer the bits of which are these rooms, each of which is told once."""
    return sum([1 << room for room in rooms])


def wishes_of(way):
    """Return for each entry of way, in order, its place, the room wished there, and the mask of those held there."""
    return tuple((place, wish(way, place), mask_of(held(way, place))) for place in entries(way))


def closing_rows(wishes, ring, mask):
    """Return for each hand of ring but the first one those of its wishes that lead round to a room of mask."""
    rows = []
    for hand in reversed(ring[1:]):
        row = [wishing for wishing in wishes[hand] if mask >> wishing[1] & 1]
        rows.append(row)
        mask = 0
        for _, _, more in row:
            mask = mask | more
    rows.reverse()
    return rows


def rings_along(wishes, ring, first):
    """Return the rings-to-be of the hands of ring, in its order, in which its first hand has this wish."""
    paths = [(first,)]
    for row in closing_rows(wishes, ring, first[2]):
        paths = [path + (wishing,) for path in paths for wishing in row if wishing[2] >> path[-1][1] & 1]
        # Each path leads round: so there are not fewer rings.
        refuse_more_rings(len(paths))
    return [tuple((hand, wishing[0]) for hand, wishing in zip(ring, path)) for path in paths]


def rings_to_be(house):
    """Return all rings-to-be of house, ascending."""
    wishes = [wishes_of(way) for way in house[1]]
    rings = []
    for ring in hand_rings(tuple(range(len(wishes)))):
        for first in wishes[ring[0]]:
            rings.extend(rings_along(wishes, ring, first))
            refuse_more_rings(len(rings))
    return tuple(sorted(rings))


def ring_comes_together(house, ring):
    """Tell whether a ring of pairs of a hand and its place comes together."""
    return comes_together(house, choice_of(house, ring))


def hold_rings(house):
    """Return all rings of holds of house, ascending."""
    return tuple(ring for ring in rings_to_be(house) if ring_comes_together(house, ring))
