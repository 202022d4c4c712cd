"""How all hands come home when nobody begins any more."""

from roomways.bounds import MAX_MOVES
from roomways.doors import places_ahead
from roomways.errors import TooMany, Unfit
from roomways.holds import mask_of
from roomways.standings import bows, even_ones
from roomways.steps import next_step, stepped
from roomways.stuckness import is_never_stuck
from roomways.ways import held


def masks_ahead(house, room, hand):
    """Return for each place at which hand wishes room the mask of the rooms that it holds there."""
    return [mask_of(held(house[1][hand], place)) for place in places_ahead(house, room, hand)]


def meets(house, room, hand, other):
    """Tell whether both hands have places ahead of room at which they hold no room both."""
    masks = masks_ahead(house, room, other)
    return any([not mask & more for mask in masks_ahead(house, room, hand) for more in masks])


def yields_to(house, room, hand):
    """Return the hands to which hand yields at room, ascending."""
    if house[0][room] is None:
        return ()
    others = [other for other in range(len(house[1])) if other != hand and bows(house, room, hand, other)]
    return tuple(other for other in others if meets(house, room, hand, other))


def yieldings(house, room):
    """Return for each hand those to which it yields at room; it raises Unfit if some hands yield in a ring there."""
    rows = [yields_to(house, room, hand) for hand in range(len(house[1]))]
    left = list(range(len(rows)))
    free = left
    while free:
        free = [hand for hand in left if not any([other in left for other in rows[hand]])]
        left = [hand for hand in left if hand not in free]
    if left:
        raise Unfit()
    return rows


def many_tries(house, room, rows, hand):
    """Return how many tries hand has at room, rows telling to whom each hand yields there."""
    entering = len(places_ahead(house, room, hand))
    if not rows[hand]:
        return entering
    return entering + 1 + sum([many_tries(house, room, rows, other) for other in rows[hand]])


def tries(house, room, hand):
    """Return how many tries hand has at room at most when nobody begins."""
    return many_tries(house, room, yieldings(house, room), hand)


def steps_of_entries(house, room, hand):
    """Return how many steps hand makes at most in its entries of room when nobody begins."""
    entering = len(places_ahead(house, room, hand))
    many = len(house[1])
    failing = tries(house, room, hand) - entering
    if house[0][room] is None or many == 1:
        return entering
    even = len(even_ones(house, room, hand))
    return entering * (even + many) + failing * (even + many + 2)


def home_bound(house):
    """Return how many steps all hands make at most till they rest when nobody begins."""
    if not is_never_stuck(house):
        raise Unfit()
    total = sum([len(way) // 2 for way in house[1]])
    for room in range(len(house[0])):
        total += sum([steps_of_entries(house, room, hand) for hand in range(len(house[1]))])
    return total


def going(house, standing):
    """Return the hands that neither rest nor are barred, ascending."""
    hands = [hand for hand, (_, word, _) in enumerate(standing[0]) if word != "rest"]
    return [hand for hand in hands if next_step(house, standing, hand) is not None]


def home_run(house, standing, picks):
    """Return the run that begins at standing, nobody beginning, in which picks tell who makes each step."""
    run = []
    hands = going(house, standing)
    while hands:
        if len(run) == MAX_MOVES:
            raise TooMany(MAX_MOVES)
        hand = hands[picks[len(run) % len(picks)] % len(hands)]
        standing = stepped(house, standing, hand)
        run.append(hand)
        hands = going(house, standing)
    return tuple(run)
