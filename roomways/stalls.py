"""Stalls: runs behind which some hands wait for one another, or bow to one another, for ever."""

from roomways.bounds import MAX_MOVES
from roomways.doors import bow_rings, hands_of
from roomways.errors import BadRun
from roomways.kinds import is_tuple_below, is_tuple_of
from roomways.runs import trace
from roomways.standings import even_ones, looked_at, start
from roomways.steps import next_step
from roomways.stuckness import stuck_ring
from roomways.times import next_one, order_of_time
from roomways.together import choice_of, course_to


def faced(house, room, hand, spot):
    """Return the hand to which hand hands over, or at which it looks, at this spot of its entry; None at go."""
    _, word, number = spot
    if word == "hand":
        return even_ones(house, room, hand)[number]
    if word == "look":
        return looked_at(house, room, hand, number)
    return None


def hold_stall(house, ring):
    """Return a stall by a ring of holds."""
    course = course_to(house, choice_of(house, ring))
    for hand in hands_of(ring):
        course.step_till_barred(hand)
    return (tuple(course.run), ())


def wait_stall(house, room, ring):
    """Return a stall by a door ring the hands of which are a wait ring."""
    course = course_to(house, choice_of(house, ring))
    hands = hands_of(ring)
    for event in order_of_time(house, room, hands):
        hand = event[1]
        course.step(hand)
        # What is done with hands that rest is no event.
        while faced(house, room, hand, course.spot(hand)) not in hands:
            course.step(hand)
    return (tuple(course.run), ())


def step_to_look(course, room, hand, other):
    """Let hand make steps until it is going to look at the other one."""
    while course.spot(hand)[1] != "look" or faced(course.house, room, hand, course.spot(hand)) != other:
        course.step(hand)


def bow_to_each_other(course, room, hands):
    """Let two hands that look at one another bow, and come to look at one another again."""
    one, other = hands
    for hand in (one, other) * 3:
        course.step(hand)
    step_to_look(course, room, one, other)
    step_to_look(course, room, other, one)


def bow_round(course, hands):
    """Let each of three hands or more, one behind another, bow to its next one, which raises its flag ahead of that."""
    for hand in hands:
        course.step(next_one(hands, hand))
        course.step_till_low(hand)
        ahead = hands[hands.index(hand) - 1]
        if course.spot(ahead)[1] == "low":
            course.step(ahead)


def bow_stall(house, room, ring):
    """Return a stall by a door ring the hands of which are a bow ring."""
    course = course_to(house, choice_of(house, ring))
    hands = hands_of(ring)
    if len(hands) == 2:
        step_to_look(course, room, hands[0], hands[1])
        step_to_look(course, room, hands[1], hands[0])
        many = len(course.run)
        bow_to_each_other(course, room, hands)
    else:
        # Behind the first time round one of them is low, and the tokens are where they will be each time.
        bow_round(course, hands)
        many = len(course.run)
        bow_round(course, hands)
    return (tuple(course.run[:many]), tuple(course.run[many:]))


def stall(house):
    """Return a stall of house, None if it never gets stuck."""
    ring = stuck_ring(house)
    if ring is None:
        return None
    if ring[0] == "hold":
        return hold_stall(house, ring[1])
    _, room, pairs = ring
    if hands_of(pairs) in bow_rings(house, room):
        return bow_stall(house, room, pairs)
    return wait_stall(house, room, pairs)


def is_run(house, value):
    """Tell whether value is a run of hands of house."""
    return is_tuple_below(value, len(house[1])) and len(value) <= MAX_MOVES


def first_idle(house, standings, movers):
    """Return the first hand that neither rests nor is one of movers, nor is barred in one of these; None if none."""
    for hand, (_, word, _) in enumerate(standings[0][0]):
        if word != "rest" and hand not in movers:
            if not any([next_step(house, standing, hand) is None for standing in standings]):
                return hand
    return None


def going_round_error(house, standing, steps):
    """Return what is wrong with the second run of a stall, the first one leading to standing; None if nothing is."""
    try:
        told, standings = trace(house, standing, steps)
    except BadRun as error:
        return ("round", error.place)
    for place, word in enumerate(told):
        if word in ("begin", "enter", "leave"):
            return ("word", place)
    if standings[-1] != standing:
        return "back"
    hand = first_idle(house, standings, steps)
    if hand is not None:
        return ("hand", hand)
    return None


def stall_error(house, value):
    """Return None if value is a stall of house, otherwise what is wrong with it."""
    if not is_tuple_of(value, 2) or not all([is_run(house, item) for item in value]):
        return "form"
    run, steps = value
    try:
        _, standings = trace(house, start(house), run)
    except BadRun as error:
        return ("run", error.place)
    if all([word == "rest" for _, word, _ in standings[-1][0]]):
        return "rest"
    return going_round_error(house, standings[-1], steps)
