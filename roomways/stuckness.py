"""Whether a house can get stuck, and the ring by which it does."""

from roomways.doors import bow_rings, hands_of, places_ahead, wait_rings
from roomways.holds import mask_of, wishes_of
from roomways.times import order_of_time
from roomways.ways import held


def stands_among(hand, wishes):
    """Return the stands of hand: it, and where it holds some room itself, a place, the room wished, the mask held.

    These are told by wishes, in order; spots of programs serve as well as places.
    """
    stands = []
    known = []
    for place, room, mask in wishes:
        # Where hand wishes and holds the same as at a lesser place it is in no least ring.
        if mask and (room, mask) not in known:
            stands.append((hand, place, room, mask))
            known.append((room, mask))
    return stands


def kept_by(path):
    """Return the mask of all rooms that are held by these stands, which are apart."""
    return sum([mask for _, _, _, mask in path])


def may_follow(path, stand, many):
    """Tell whether stand can be the next one of a path that is to become a ring of so many, which is apart."""
    _, _, room, mask = stand
    kept = kept_by(path)
    if mask & kept or not mask >> path[-1][2] & 1:
        return False
    # Each room is held once: what is held already is wished by the last one alone.
    if len(path) + 1 == many:
        return path[0][3] >> room & 1 == 1
    return not (kept | mask) >> room & 1


def closed(stands, path, many):
    """Return the least ring-to-be of so many stands that begins with path and is apart, None if there is none."""
    if len(path) == many:
        return path
    hands = [stand[0] for stand in path]
    for hand in range(hands[0] + 1, len(stands)):
        for stand in stands[hand]:
            if hand not in hands and may_follow(path, stand, many):
                ring = closed(stands, path + (stand,), many)
                if ring is not None:
                    return ring
    return None


def least_ring(stands):
    """Return the least of the shortest rings-to-be of these rows of stands that are apart, None if there is none."""
    for many in range(2, len(stands) + 1):
        for row in stands:
            for stand in row:
                ring = closed(stands, (stand,), many)
                if ring is not None:
                    return ring
    return None


def least_hold_ring(house):
    """Return the least of the shortest rings of holds, None if there is none."""
    ring = least_ring([stands_among(hand, wishes_of(way)) for hand, way in enumerate(house[1])])
    if ring is None:
        return None
    # If the least of the shortest ones that are apart did not come together, there would be a ring of holds of some
    # of its hands, each at a lesser place: so it does.
    return tuple((hand, place) for hand, place, _, _ in ring)


def fewest_places(house, room, hand):
    """Return the pairs of a place at which hand wishes room and the mask of the rooms held there, each mask once."""
    pairs = []
    masks = []
    for place in places_ahead(house, room, hand):
        mask = mask_of(held(house[1][hand], place))
        if mask not in masks:
            pairs.append((place, mask))
            masks.append(mask)
    return pairs


def least_apart(rows, taken):
    """Return the least tuple of a place of each of these rows, no room held by two nor taken, None if there is none."""
    if not rows:
        return ()
    for place, mask in rows[0]:
        if not mask & taken:
            places = least_apart(rows[1:], taken | mask)
            if places is not None:
                return (place,) + places
    return None


def apart_rings(house, room, rings):
    """Return the least ring of pairs that is apart, ahead of room, of the hands of each of these rings that has any."""
    rows = [fewest_places(house, room, hand) for hand in range(len(house[1]))]
    found = []
    for ring in rings:
        places = least_apart([rows[hand] for hand in ring], 0)
        if places is not None:
            found.append(tuple(zip(ring, places)))
    return found


def least_door_ring(house, room, many):
    """Return the least door ring of so many hands of room, None if there is none, house having no ring of holds."""
    found = apart_rings(house, room, [ring for ring in bow_rings(house, room) if len(ring) == many])
    for pairs in apart_rings(house, room, [ring for ring in wait_rings(house, room) if len(ring) == many]):
        if order_of_time(house, room, hands_of(pairs)) is not None:
            found.append(pairs)
    return min(found, default=None)


def stuck_ring(house):
    """Return the ring of the fewest hands by which house can get stuck, None if there is none."""
    ring = least_hold_ring(house)
    if ring is not None:
        return ("hold", ring)
    for many in range(2, len(house[1]) + 1):
        for room in range(len(house[0])):
            ring = least_door_ring(house, room, many)
            if ring is not None:
                return ("door", room, ring)
    return None


def is_never_stuck(house):
    """Tell whether house never gets stuck."""
    return stuck_ring(house) is None
