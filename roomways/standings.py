"""Standings: where all hands are, and with whom the tokens are."""

from roomways.kinds import is_below, is_integer, is_pair_of_tuples, is_tuple_of
from roomways.ways import held, wish

ENTRY_WORDS = ("hand", "look", "yield", "low")


def even_ones(house, room, hand):
    """Return the hands with which hand is even at a door, ascending."""
    table, _ = house[0][room]
    return tuple(other for other, word in enumerate(table[hand]) if word == "even")


def even_pairs(house):
    """Return the triples of a door and two hands, the lesser one first, that are even there, ascending."""
    rooms, ways = house
    pairs = []
    for room, door in enumerate(rooms):
        if door is not None:
            for one in range(len(ways)):
                pairs.extend([(room, one, other) for other in even_ones(house, room, one) if one < other])
    return tuple(pairs)


def start(house):
    """Return the standing in which all rest, and each token is with the lesser one of its two."""
    spots = tuple((0, "rest", 0) for _ in house[1])
    return (spots, tuple((room, one, other, one) for room, one, other in even_pairs(house)))


def looked_at(house, room, hand, number):
    """Return the hand at which hand looks at a door when it has looked at so many."""
    _, orders = house[0][room]
    return orders[hand][number]


def bows(house, room, hand, other):
    """Tell whether hand bows to the other one at a door."""
    table, _ = house[0][room]
    return table[hand][other] == "bow"


def entry_numbers(house, hand, place, word):
    """Return the numbers that a spot of hand at this place may have with a word of an entry, ascending."""
    rooms, ways = house
    room = wish(ways[hand], place)
    if room is None or rooms[room] is None:
        return ()
    if word == "hand":
        return tuple(range(len(even_ones(house, room, hand))))
    numbers = tuple(range(len(ways) - 1))
    if word == "look":
        return numbers
    return tuple(number for number in numbers if bows(house, room, hand, looked_at(house, room, hand, number)))


def is_spot(house, hand, value):
    """Tell whether value is a spot that hand can have."""
    if not is_tuple_of(value, 3):
        return False
    place, word, number = value
    if not is_below(place, len(house[1][hand])) or not is_integer(number):
        return False
    if word == "rest":
        return place == 0 and number == 0
    if word == "go":
        return number == 0
    return word in ENTRY_WORDS and number in entry_numbers(house, hand, place, word)


def is_token(pair, value):
    """Tell whether value is a token of this triple of a door and two hands."""
    if not is_tuple_of(value, 4) or not all([is_integer(item) for item in value]):
        return False
    return value[:3] == pair and value[3] in pair[1:]


def tokens_error(house, tokens):
    """Return what is wrong with these tokens, None if nothing is."""
    pairs = even_pairs(house)
    if len(tokens) != len(pairs):
        return "tokens"
    for place, pair in enumerate(pairs):
        if not is_token(pair, tokens[place]):
            return ("token", place)
    return None


def standing_error(house, value):
    """Return None if value is a standing of house, otherwise what is wrong with it."""
    if not is_pair_of_tuples(value):
        return "form"
    spots, tokens = value
    if len(spots) != len(house[1]):
        return "spots"
    for hand, spot in enumerate(spots):
        if not is_spot(house, hand, spot):
            return ("spot", hand)
    return tokens_error(house, tokens)


def holds(house, standing, room, hand):
    """Tell whether hand holds room."""
    place, _, _ = standing[0][hand]
    return room in held(house[1][hand], place)


def holders(house, standing, room):
    """Return the hands that hold room, ascending."""
    return tuple(hand for hand in range(len(house[1])) if holds(house, standing, room, hand))


def inside(house, standing):
    """Return for each room the hands that hold it, ascending."""
    return tuple(holders(house, standing, room) for room in range(len(house[0])))


def flag(house, standing, room, hand):
    """Return whether the flag of hand at room is down, half or up."""
    place, word, _ = standing[0][hand]
    if holds(house, standing, room, hand):
        return "up"
    if wish(house[1][hand], place) == room and word in ("look", "yield"):
        return "up"
    if wish(house[1][hand], place) == room and word == "hand":
        return "half"
    return "down"


def token(house, standing, room, one, other):
    """Return which of both the token of one and other at room is with, None if there is none."""
    pair = (room, min(one, other), max(one, other))
    for quadruple in standing[1]:
        if quadruple[:3] == pair:
            return quadruple[3]
    return None
