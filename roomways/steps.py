"""The steps of hands, and who is barred."""

from roomways.errors import Unfit
from roomways.standings import bows, even_ones, flag, holders, looked_at, token
from roomways.ways import wish


def is_entered_at_once(house, room):
    """Tell whether room is entered without a look at any flag."""
    return house[0][room] is None or len(house[1]) == 1


def step_of_going(house, standing, hand):
    """Return the word of the next step of a hand that goes, None if it is barred."""
    place, _, _ = standing[0][hand]
    room = wish(house[1][hand], place)
    if room is None:
        return "leave"
    if not is_entered_at_once(house, room):
        return "raise"
    if holders(house, standing, room):
        return None
    return "enter"


def passes(house, standing, hand, room, other):
    """Tell whether hand passes the other one at which it looks."""
    seen = flag(house, standing, room, other)
    # There is a token of both just if they are even.
    return seen == "down" or (seen == "up" and token(house, standing, room, hand, other) == hand)


def step_of_looking(house, standing, hand):
    """Return the word of the next step of a hand that looks at another one, None if it is barred."""
    place, _, number = standing[0][hand]
    room = wish(house[1][hand], place)
    other = looked_at(house, room, hand, number)
    if passes(house, standing, hand, room, other):
        if number == len(house[1]) - 2:
            return "enter"
        return "look"
    if bows(house, room, hand, other):
        return "yield"
    return None


def step_of_waiting_low(house, standing, hand):
    """Return the word of the next step of a hand that took its flag down, None if it is barred."""
    place, _, number = standing[0][hand]
    room = wish(house[1][hand], place)
    other = looked_at(house, room, hand, number)
    if flag(house, standing, room, other) == "down":
        return "see"
    return None


def next_step(house, standing, hand):
    """Return the word of the next step of hand, None if it is barred."""
    _, word, _ = standing[0][hand]
    if word == "rest":
        return "begin"
    if word == "go":
        return step_of_going(house, standing, hand)
    if word == "hand":
        return "hand"
    if word == "look":
        return step_of_looking(house, standing, hand)
    if word == "yield":
        return "lower"
    return step_of_waiting_low(house, standing, hand)


def spot_behind_moving(way, place):
    """Return the spot of a hand that has made the step of its way at place."""
    if place + 1 == len(way):
        return (0, "rest", 0)
    return (place + 1, "go", 0)


def spot_behind_handing(house, place, hand, number):
    """Return the spot of a hand that handed over so many tokens in its entry."""
    room = wish(house[1][hand], place)
    if number < len(even_ones(house, room, hand)):
        return (place, "hand", number)
    return (place, "look", 0)


def spot_behind(house, spot, hand, step):
    """Return the spot of hand behind a step of this word."""
    place, _, number = spot
    if step in ("begin", "see"):
        return (place, "go", 0)
    if step in ("leave", "enter"):
        return spot_behind_moving(house[1][hand], place)
    if step == "raise":
        return spot_behind_handing(house, place, hand, 0)
    if step == "hand":
        return spot_behind_handing(house, place, hand, number + 1)
    if step == "look":
        return (place, "look", number + 1)
    if step == "yield":
        return (place, "yield", number)
    return (place, "low", number)


def tokens_behind_handing(house, standing, hand):
    """Return the tokens behind the step by which hand hands one over."""
    place, _, number = standing[0][hand]
    room = wish(house[1][hand], place)
    other = even_ones(house, room, hand)[number]
    pair = (room, min(hand, other), max(hand, other))
    return tuple(pair + (other,) if given[:3] == pair else given for given in standing[1])


def standing_behind(house, standing, hand, step):
    """Return the standing behind the next step of hand, step being the word of it."""
    spots, tokens = standing
    spot = spot_behind(house, spots[hand], hand, step)
    if step == "hand":
        tokens = tokens_behind_handing(house, standing, hand)
    return (spots[:hand] + (spot,) + spots[hand + 1:], tokens)


def stepped(house, standing, hand):
    """Return the standing behind the next step of hand."""
    step = next_step(house, standing, hand)
    if step is None:
        raise Unfit()
    return standing_behind(house, standing, hand, step)


def movers(house, standing):
    """Return all hands that are not barred, ascending."""
    return tuple(hand for hand in range(len(house[1])) if next_step(house, standing, hand) is not None)


def wait_of(house, standing, hand):
    """Return the room before which a barred hand waits, and the hand for which it does."""
    place, word, number = standing[0][hand]
    room = wish(house[1][hand], place)
    if word == "go":
        return (room, holders(house, standing, room)[0])
    return (room, looked_at(house, room, hand, number))


def barred(house, standing):
    """Return for each barred hand the triple of it, the room and the hand for which it waits, ascending."""
    waits = []
    for hand in range(len(house[1])):
        if next_step(house, standing, hand) is None:
            waits.append((hand,) + wait_of(house, standing, hand))
    return tuple(waits)
