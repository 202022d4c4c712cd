"""The texts of houses."""

from roomways.errors import BadHouse, BadText
from roomways.houses import house_error

FIGURES = "0123456789"
SIGNS_OF_WORDS = {"-": "-", "stand": "s", "bow": "b", "even": "e"}
WORDS_OF_SIGNS = {"-": "-", "s": "stand", "b": "bow", "e": "even"}
SIGNS_OF_STEPS = {"in": "+", "out": "-"}
STEPS_OF_SIGNS = {"+": "in", "-": "out"}


def row_text(row):
    """Return the text of a row of a table."""
    return "".join([SIGNS_OF_WORDS[word] for word in row])


def order_text(order):
    """Return the text of an order."""
    if not order:
        return "."
    return "".join([str(hand) for hand in order])


def room_line(room):
    """Return the line of a room."""
    if room is None:
        return "plain"
    table, orders = room
    return " ".join(["door"] + [row_text(row) for row in table] + [order_text(order) for order in orders])


def way_line(way):
    """Return the line of a way."""
    return " ".join(["way"] + [SIGNS_OF_STEPS[word] + str(room) for word, room in way])


def house_text(house):
    """Return the text of house."""
    rooms, ways = house
    return "\n".join([room_line(room) for room in rooms] + [way_line(way) for way in ways])


def is_row_text(item):
    """Tell whether item is one sign of a row or more."""
    return item != "" and all([sign in WORDS_OF_SIGNS for sign in item])


def is_order_text(item):
    """Tell whether item is a full stop, or one figure or more."""
    return item == "." or (item != "" and all([sign in FIGURES for sign in item]))


def is_door_line(line):
    """Tell whether line is the line of a door."""
    items = line.split(" ")
    many = len(items) // 2
    if items[0] != "door" or len(items) < 3 or len(items) != 2 * many + 1:
        return False
    rows, orders = items[1:many + 1], items[many + 1:]
    return all([is_row_text(item) for item in rows]) and all([is_order_text(item) for item in orders])


def is_room_line(line):
    """Tell whether line is the line of a room."""
    return line == "plain" or is_door_line(line)


def is_step_text(item):
    """Tell whether item is the text of a step."""
    return len(item) == 2 and item[0] in STEPS_OF_SIGNS and item[1] in FIGURES


def is_way_line(line):
    """Tell whether line is the line of a way."""
    items = line.split(" ")
    return items[0] == "way" and len(items) > 1 and all([is_step_text(item) for item in items[1:]])


def read_row(item):
    """Return the row of which item is the text."""
    return tuple(WORDS_OF_SIGNS[sign] for sign in item)


def read_order(item):
    """Return the order of which item is the text."""
    if item == ".":
        return ()
    return tuple(int(sign) for sign in item)


def read_room(line):
    """Return the room of which line is the line."""
    if line == "plain":
        return None
    items = line.split(" ")
    many = len(items) // 2
    rows, orders = items[1:many + 1], items[many + 1:]
    return (tuple(read_row(item) for item in rows), tuple(read_order(item) for item in orders))


def read_way(line):
    """Return the way of which line is the line."""
    items = line.split(" ")
    return tuple((STEPS_OF_SIGNS[item[0]], int(item[1])) for item in items[1:])


def read_lines(lines):
    """Return the pair of rooms and ways of which these are the lines."""
    rooms = []
    ways = []
    for place, line in enumerate(lines):
        if is_way_line(line):
            ways.append(read_way(line))
        elif is_room_line(line) and not ways:
            rooms.append(read_room(line))
        else:
            raise BadText(place)
    return (tuple(rooms), tuple(ways))


def read_house(value):
    """Return the house of which value is the text."""
    if not isinstance(value, str):
        raise BadText(0)
    house = read_lines(value.split("\n"))
    error = house_error(house)
    if error is not None:
        raise BadHouse(error)
    return house
