"""Logs: the edits of an office, their text, and the office behind them."""

from roomways.bounds import MAX_EDITS, MAX_HANDS, MAX_ROOMS
from roomways.errors import BadLog, BadText, WayError
from roomways.houses import door_error
from roomways.housetexts import is_room_line, is_way_line, read_room, read_way, room_line, way_line
from roomways.kinds import is_tuple_of
from roomways.offices import Office
from roomways.ways import way_error

WAY = "way "


def edit_text(edit):
    """Return the text of an edit."""
    word, number, *rest = edit
    text = f"{word} {number}"
    if word == "build":
        return text + " " + room_line(rest[0])
    if word == "lead":
        return text + " " + way_line(rest[0])[len(WAY):]
    return text


def log_text(log):
    """Return the text of log."""
    return "".join([edit_text(edit) + "\n" for edit in log])


def read_figure(text, many):
    """Return the number below many of which text is the figure."""
    for number in range(many):
        if text == str(number):
            return number
    raise BadText(0)


def read_door(text):
    """Return the room, plain or a door for some hands, of which text is the line."""
    if not is_room_line(text):
        raise BadText(0)
    room = read_room(text)
    if room is not None and (len(room[0]) > MAX_HANDS or door_error(len(room[0]), room) is not None):
        raise BadText(0)
    return room


def read_lead(text):
    """Return the way of which text is the line without its first word."""
    if not is_way_line(WAY + text):
        raise BadText(0)
    way = read_way(WAY + text)
    if way_error(MAX_ROOMS, way) is not None:
        raise BadText(0)
    return way


def read_edit(line):
    """Return the edit of which line is the text."""
    word, _, told = line.partition(" ")
    if word == "go":
        return ("go", read_figure(told, MAX_HANDS))
    number, _, rest = told.partition(" ")
    if word == "build":
        return ("build", read_figure(number, MAX_ROOMS), read_door(rest))
    if word == "lead":
        return ("lead", read_figure(number, MAX_HANDS), read_lead(rest))
    raise BadText(0)


def read_log(value):
    """Return the log of which value is the text."""
    if not isinstance(value, str):
        raise BadText(0)
    lines = value.split("\n")
    if lines[-1] == "":
        lines.pop()
    log = []
    for place, line in enumerate(lines):
        if place == MAX_EDITS:
            raise BadText(place)
        try:
            log.append(read_edit(line))
        except BadText:
            raise BadText(place)
    return tuple(log)


def is_edit(value):
    """Tell whether value is a tuple of the word of an edit and as many arguments as it has."""
    if is_tuple_of(value, 2):
        return value[0] == "go"
    return is_tuple_of(value, 3) and value[0] in ("build", "lead")


def do_edit(office, edit):
    """Do this edit in office, and return the version."""
    if edit[0] == "go":
        return office.go(edit[1])
    if edit[0] == "build":
        return office.build(edit[1], edit[2])
    return office.lead(edit[1], edit[2])


def office_behind(house, value):
    """Return a new office with this house in which the edits of value were done, one behind another."""
    office = Office(house)
    if not isinstance(value, tuple):
        raise BadLog(0)
    for place, item in enumerate(value):
        if not is_edit(item):
            raise BadLog(place)
        try:
            do_edit(office, item)
        except WayError:
            raise BadLog(place)
    return office
