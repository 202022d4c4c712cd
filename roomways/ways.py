"""Ways: rows of enterings and leavings."""

from roomways.bounds import MAX_STEPS
from roomways.kinds import is_below, is_tuple_of

MIN_STEPS = 2


def is_step(many, value):
    """Tell whether value is a step of a way through so many rooms."""
    return is_tuple_of(value, 2) and value[0] in ("in", "out") and is_below(value[1], many)


def nesting_error(steps):
    """Return what is wrong with the order of these steps, None if nothing is."""
    rooms = []
    for place, (word, room) in enumerate(steps):
        if word == "in":
            if room in rooms:
                return ("in", place)
            rooms.append(room)
        elif not rooms or rooms.pop() != room:
            return ("out", place)
    if rooms:
        return "held"
    return None


def way_error(many, value):
    """Return None if value is a way through so many rooms, otherwise what is wrong with it."""
    if not isinstance(value, tuple) or not MIN_STEPS <= len(value) <= MAX_STEPS:
        return "form"
    for place, step in enumerate(value):
        if not is_step(many, step):
            return ("step", place)
    return nesting_error(value)


def held(way, place):
    """Return the rooms that are held at place, in the order in which they were entered."""
    rooms = []
    for word, room in way[:place]:
        if word == "in":
            rooms.append(room)
        else:
            rooms.pop()
    return tuple(rooms)


def wish(way, place):
    """Return the room that the step at place enters, None if it leaves one."""
    word, room = way[place]
    if word == "in":
        return room
    return None


def entries(way):
    """Return the places of all steps that enter a room, ascending."""
    return tuple(place for place, (word, _) in enumerate(way) if word == "in")
