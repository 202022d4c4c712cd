"""The texts of standings."""

from roomways.errors import BadText
from roomways.standings import ENTRY_WORDS, entry_numbers, even_pairs


def spot_text(spot):
    """Return the text of a spot."""
    place, word, number = spot
    if word == "rest":
        return "rest"
    if word == "go":
        return f"go {place}"
    return f"{word} {place} {number}"


def standing_text(house, standing):
    """Return the text of a standing of house."""
    spots, tokens = standing
    text = ", ".join([spot_text(spot) for spot in spots])
    if tokens:
        text = text + "; " + " ".join([str(who) for _, _, _, who in tokens])
    return text


def read_number(numbers, text):
    """Return that one of numbers of which text is the text, None if it is the text of none."""
    # A text may have more figures than int would read.
    for number in numbers:
        if str(number) == text:
            return number
    return None


def read_entry(house, hand, word, items):
    """Return the spot at an entry of which these are the word and the texts of its numbers, None if it is none."""
    place = read_number(tuple(range(len(house[1][hand]))), items[0])
    if place is None or word not in ENTRY_WORDS:
        return None
    number = read_number(entry_numbers(house, hand, place, word), items[1])
    if number is None:
        return None
    return (place, word, number)


def read_spot(house, hand, text):
    """Return the spot of hand of which text is the text, None if it is the text of none."""
    word, *items = text.split(" ")
    if text == "rest":
        return (0, "rest", 0)
    if word == "go" and len(items) == 1:
        place = read_number(tuple(range(len(house[1][hand]))), items[0])
        return None if place is None else (place, "go", 0)
    if len(items) == 2:
        return read_entry(house, hand, word, items)
    return None


def read_spots(house, text):
    """Return the spots of which text is the text."""
    items = text.split(", ")
    if len(items) != len(house[1]):
        raise BadText(0)
    spots = tuple([read_spot(house, hand, item) for hand, item in enumerate(items)])
    if None in spots:
        raise BadText(0)
    return spots


def read_tokens(house, items):
    """Return the tokens of which these are the texts."""
    pairs = even_pairs(house)
    if len(items) != len(pairs):
        raise BadText(0)
    tokens = []
    for (room, one, other), item in zip(pairs, items):
        who = read_number((one, other), item)
        if who is None:
            raise BadText(0)
        tokens.append((room, one, other, who))
    return tuple(tokens)


def read_standing(house, value):
    """Return the standing of house of which value is the text."""
    if not isinstance(value, str):
        raise BadText(0)
    spots, mark, tokens = value.partition("; ")
    items = tokens.split(" ") if mark else []
    return (read_spots(house, spots), read_tokens(house, items))
