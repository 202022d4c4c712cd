"""Hands that can be kept out of a room for ever, though nobody is stuck."""

from roomways.doors import bow_rings, timed_rings
from roomways.errors import BadRun, Unfit
from roomways.holds import mask_of, wishes_of
from roomways.kinds import is_below, is_integer, is_pair_of_tuples, is_tuple_below, is_tuple_of
from roomways.runs import trace
from roomways.standings import bows, start
from roomways.steps import next_step
from roomways.stuckness import is_never_stuck
from roomways.together import choice_of, comes_together, course_to
from roomways.ways import entries, held, wish


def free_doors(house):
    """Tell whether all doors of house are free."""
    return all([not bow_rings(house, room) + timed_rings(house, room) for room in range(len(house[0]))])


def refuse_no_hand(house, hand):
    """Raise Unfit unless hand is a hand of house."""
    if not is_below(hand, len(house[1])):
        raise Unfit()


def is_entry(house, hand, place):
    """Tell whether place is an entry of the way of hand."""
    return is_integer(place) and place in entries(house[1][hand])


def refuse_no_entry(house, hand, place):
    """Raise Unfit unless hand is a hand of house, and place an entry of its way."""
    refuse_no_hand(house, hand)
    if not is_entry(house, hand, place):
        raise Unfit()


def refuse_unfree(house):
    """Raise Unfit if house can get stuck, or its doors are not free."""
    if not is_never_stuck(house) or not free_doors(house):
        raise Unfit()


def enters(house, hand, room):
    """Tell whether the way of hand enters room."""
    return ("in", room) in house[1][hand]


def bows_there(house, room, hand, other):
    """Tell whether room is a door at which hand bows to the other one."""
    return house[0][room] is not None and bows(house, room, hand, other)


def can_be_next(house, link, other, place):
    """Tell whether the other hand and its place can be the next link of this one."""
    hand, at = link
    room = wish(house[1][hand], at)
    way = house[1][other]
    if room in held(way, place):
        return True
    return wish(way, place) == room and bows_there(house, room, hand, other)


def can_move(house, link, mover):
    """Tell whether mover enters the room that this link, the last one, wishes, and is let by there."""
    hand, place = link
    room = wish(house[1][hand], place)
    return enters(house, mover, room) and (house[0][room] is None or bows(house, room, hand, mover))


def is_barred_by(house, links, mover):
    """Tell whether mover enters a room that is held in the links."""
    rooms = [room for hand, place in links for room in held(house[1][hand], place)]
    return any([enters(house, mover, room) for room in rooms])


def mover_of(house, links):
    """Return the least hand that can be the mover behind these links, None if there is none."""
    hands = [hand for hand, _ in links]
    for mover in range(len(house[1])):
        if mover not in hands and can_move(house, links[-1], mover) and not is_barred_by(house, links, mover):
            return mover
    return None


def links_behind(house, links, taken):
    """Return the pairs of a link that can come behind these, which hold the rooms of taken, and all rooms held then."""
    hands = [hand for hand, _ in links]
    pairs = []
    for other in range(len(house[1])):
        for place, _, mask in wishes_of(house[1][other]):
            if other not in hands and not mask & taken and can_be_next(house, links[-1], other, place):
                pairs.append(((other, place), mask | taken))
    return pairs


def chain_from(house, links, taken):
    """Return a chain that begins with these links, which hold the rooms of taken, None if there is none."""
    mover = mover_of(house, links)
    if mover is not None:
        return (links, mover)
    for link, rooms in links_behind(house, links, taken):
        told = chain_from(house, links + (link,), rooms)
        if told is not None:
            return told
    return None


def found_chain(house, hand, place):
    """Return a chain for hand and place in a house that never gets stuck, None if there is none."""
    # In such a house places come together if no room is held by two there.
    return chain_from(house, ((hand, place),), mask_of(held(house[1][hand], place)))


def chain(house, hand, place):
    """Return a chain for hand and place, None if there is none."""
    refuse_no_entry(house, hand, place)
    refuse_unfree(house)
    return found_chain(house, hand, place)


def can_be_kept_out(house, hand):
    """Tell whether hand can be kept out at some entry of its way."""
    refuse_no_hand(house, hand)
    refuse_unfree(house)
    return any([found_chain(house, hand, place) is not None for place in entries(house[1][hand])])


def is_link(house, value):
    """Tell whether value is a pair of a hand and an entry of its way."""
    return is_tuple_of(value, 2) and is_below(value[0], len(house[1])) and is_entry(house, value[0], value[1])


def is_chain_form(house, value):
    """Tell whether value is a pair of one link or more and a hand."""
    if not is_tuple_of(value, 2) or not isinstance(value[0], tuple) or value[0] == ():
        return False
    return all([is_link(house, item) for item in value[0]]) and is_below(value[1], len(house[1]))


def links_error(house, links):
    """Return the first link but the last one to which the next one is not as told, None if there is none."""
    for number, link in enumerate(links[:-1]):
        other, place = links[number + 1]
        if not can_be_next(house, link, other, place):
            return ("link", number)
    return None


def chain_error(house, hand, place, value):
    """Return None if value is a chain for hand and place, otherwise what is wrong with it."""
    refuse_no_entry(house, hand, place)
    if not is_chain_form(house, value):
        return "form"
    links, mover = value
    hands = [one for one, _ in links] + [mover]
    if links[0] != (hand, place):
        return "first"
    if len(set(hands)) < len(hands):
        return "hands"
    error = links_error(house, links)
    if error is not None:
        return error
    if not can_move(house, links[-1], mover):
        return "last"
    if is_barred_by(house, links, mover):
        return "mover"
    if not comes_together(house, choice_of(house, links)):
        return "together"
    return None


def wished(house, link):
    """Return the room that this link wishes."""
    hand, place = link
    return wish(house[1][hand], place)


def step_till_all_barred(course, hands):
    """Let these hands make steps until all of them are barred."""
    going = hands
    while going:
        for hand in going:
            course.step_till_barred(hand)
        going = [hand for hand in hands if next_step(course.house, course.standing, hand) is not None]


def looks_first(course, room, hand):
    """Tell whether hand is going to make the first look of its entry of room."""
    place, word, number = course.spot(hand)
    return word == "look" and number == 0 and wish(course.house[1][hand], place) == room


def come_up(course, room, hand):
    """Let hand make steps until it is going to make the first look of its entry of room."""
    while not looks_first(course, room, hand):
        course.step(hand)


def go_home(course, hand):
    """Let hand go its way until it rests."""
    course.step(hand)
    while course.spot(hand)[1] != "rest":
        course.step(hand)


def bow_along(course, room, row, mover):
    """Let each hand of row, which wait ahead of room, bow to the one behind it, the last one to mover, and mover go."""
    for hand, behind in zip(row, row[1:] + [mover]):
        come_up(course, room, behind)
        course.step_till_low(hand)
    go_home(course, mover)


def keeping_by(house, links, mover):
    """Return a keeping by a chain of these links and this mover."""
    course = course_to(house, choice_of(house, links))
    room = wished(house, links[-1])
    row = [link[0] for link in links if wished(house, link) == room]
    step_till_all_barred(course, [hand for hand, _ in links if hand not in row])
    if house[0][room] is None:
        row = []
    # Behind the first time all of row are low, and the tokens are where they will be each time.
    bow_along(course, room, row, mover)
    many = len(course.run)
    bow_along(course, room, row, mover)
    return (tuple(course.run[:many]), tuple(course.run[many:]))


def keeping(house, hand, place):
    """Return a keeping of hand at place, None if there is none."""
    told = chain(house, hand, place)
    if told is None:
        return None
    links, mover = told
    return keeping_by(house, links, mover)


def first_out(hand, place, standings):
    """Return the number of the first of these standings in which hand is not at place or rests, None if none."""
    for number, (spots, _) in enumerate(standings):
        if spots[hand][0] != place or spots[hand][1] == "rest":
            return number
    return None


def is_passed_over(house, hand, standings):
    """Tell whether hand neither rests nor is barred in any of these standings."""
    if any([spots[hand][1] == "rest" for spots, _ in standings]):
        return False
    return not any([next_step(house, standing, hand) is None for standing in standings])


def going_round_error(house, hand, place, steps, standings):
    """Return what is wrong with the steps of the round of a keeping, through these standings; None if nothing is."""
    number = first_out(hand, place, standings)
    if number is not None:
        return ("out", number)
    if not steps or standings[-1] != standings[0]:
        return "back"
    for other in range(len(house[1])):
        if other not in steps and is_passed_over(house, other, standings):
            return ("hand", other)
    return None


def keeping_error(house, hand, place, value):
    """Return None if value is a keeping of hand at place, otherwise what is wrong with it."""
    refuse_no_entry(house, hand, place)
    if not is_pair_of_tuples(value) or not all([is_tuple_below(item, len(house[1])) for item in value]):
        return "form"
    run, steps = value
    try:
        _, standings = trace(house, start(house), run + steps)
    except BadRun as error:
        return ("step", error.place)
    return going_round_error(house, hand, place, steps, standings[len(run):])
