"""Places at which several hands can be at one and the same time, and how they come there."""

from roomways.errors import Unfit
from roomways.kinds import is_below, is_ring_below, is_tuple_below, is_tuple_of
from roomways.standings import start
from roomways.steps import next_step, stepped
from roomways.ways import held


def chosen(choice):
    """Return the pairs of each chosen hand and its place, ascending."""
    return tuple((hand, place) for hand, place in enumerate(choice) if place is not None)


def choice_of(house, pairs):
    """Return the choice in which the hands of these pairs have these places, and no other one is chosen."""
    places = {hand: place for hand, place in pairs}
    return tuple(places.get(hand) for hand in range(len(house[1])))


def keepers(house, choice, room):
    """Return the chosen hands that hold room at their places, ascending."""
    return tuple(hand for hand, place in chosen(choice) if room in held(house[1][hand], place))


def kept_rooms(house, choice):
    """Return the rooms that the chosen hands hold at their places, ascending."""
    return tuple(room for room in range(len(house[0])) if keepers(house, choice, room))


def first_shared(house, choice):
    """Return the triple of the least room that several chosen hands hold and the first two of these, None if none."""
    for room in range(len(house[0])):
        hands = keepers(house, choice, room)
        if len(hands) > 1:
            return (room, hands[0], hands[1])
    return None


def apart(house, choice):
    """Tell whether no room is held by two of the chosen hands."""
    return first_shared(house, choice) is None


def last_entering(way, place, room):
    """Return the place of the last step ahead of place that enters room."""
    return max([at for at in range(place) if way[at] == ("in", room)])


def entered_since(way, place, room):
    """Return the rooms that are entered behind the last entering of room, ahead of place, in order."""
    return tuple(other for word, other in way[last_entering(way, place, room) + 1:place] if word == "in")


def arcs(house, choice):
    """Return the pairs of rooms from the first of which an arc leads to the second one, ascending."""
    kept = kept_rooms(house, choice)
    pairs = {}
    for hand, place in chosen(choice):
        way = house[1][hand]
        for room in held(way, place):
            # A kept room entered since is held by this hand still, or by another one: an arc in both cases.
            for other in entered_since(way, place, room):
                if other in kept:
                    pairs[(room, other)] = True
    return tuple(sorted(pairs))


def put_in_layers(pairs, rooms):
    """Return these rooms in layers, the pairs leading to each from earlier ones alone, and those that are left.

    To each of those that are left a pair leads from one of them.
    """
    layers = []
    left = list(rooms)
    free = left
    while free:
        led = [other for room, other in pairs if room in left]
        free = [room for room in left if room not in led]
        layers.append(free)
        left = [room for room in left if room in led]
    return layers, left


def put_in_order(house, choice):
    """Return the kept rooms that can be put in order, in one, and those that are left as arcs lead to all of them."""
    layers, left = put_in_layers(arcs(house, choice), kept_rooms(house, choice))
    return [room for layer in layers for room in layer], left


def order_of(house, choice):
    """Return an order of the choice, None if there is none."""
    if not apart(house, choice):
        return None
    row, left = put_in_order(house, choice)
    if left:
        return None
    return tuple(row)


def comes_together(house, choice):
    """Tell whether the choice comes together."""
    return order_of(house, choice) is not None


def order_error(house, choice, value):
    """Return None if value is an order of the choice, otherwise what is wrong with it."""
    if not apart(house, choice):
        return "apart"
    if not isinstance(value, tuple):
        return "form"
    kept = kept_rooms(house, choice)
    for place, item in enumerate(value):
        if not is_below(item, len(house[0])) or item not in kept or item in value[:place]:
            return ("room", place)
    for room in kept:
        if room not in value:
            return ("lack", room)
    for room, other in arcs(house, choice):
        if value.index(room) > value.index(other):
            return ("arc", room, other)
    return None


def ring_within(pairs, left):
    """Return a ring of pairs among these rooms, to each of which a pair leads from another one of them."""
    row = [left[0]]
    while True:
        ahead = min([room for room, other in pairs if other == row[-1] and room in left])
        if ahead in row:
            # The row was gone against the pairs.
            return tuple(reversed(row[row.index(ahead):]))
        row.append(ahead)


def bar(house, choice):
    """Return a bar of the choice, None if there is none."""
    shared = first_shared(house, choice)
    if shared is not None:
        return ("room",) + shared
    _, left = put_in_order(house, choice)
    if left:
        return ("ring", ring_within(arcs(house, choice), left))
    return None


def is_shared_form(house, value):
    """Tell whether value has the form of a bar that is a room and two hands."""
    if not is_tuple_of(value, 4) or value[0] != "room" or not is_below(value[1], len(house[0])):
        return False
    return is_tuple_below(value[2:], len(house[1])) and value[2] < value[3]


def is_ring_form(house, value):
    """Tell whether value has the form of a bar that is a ring of rooms."""
    return is_tuple_of(value, 2) and value[0] == "ring" and is_ring_below(value[1], len(house[0]))


def bar_error(house, choice, value):
    """Return None if value is a bar of the choice, otherwise what is wrong with it."""
    if is_shared_form(house, value):
        for hand in value[2:]:
            if hand not in keepers(house, choice, value[1]):
                return ("hand", hand)
        return None
    if not is_ring_form(house, value):
        return "form"
    pairs = arcs(house, choice)
    rooms = value[1]
    for place, room in enumerate(rooms):
        if (room, rooms[(place + 1) % len(rooms)]) not in pairs:
            return ("arc", place)
    return None


class Course:
    """A run from the start of a house that is made step by step, and the standing to which it leads."""

    def __init__(self, house):
        self.house = house
        self.standing = start(house)
        self.run = []

    def spot(self, hand):
        """Return the spot of hand."""
        return self.standing[0][hand]

    def step(self, hand):
        """Let hand make its next step."""
        self.standing = stepped(self.house, self.standing, hand)
        self.run.append(hand)

    def step_to(self, hand, place):
        """Let hand make steps until it stands at place with the word go."""
        while self.spot(hand) != (place, "go", 0):
            self.step(hand)

    def step_till_low(self, hand):
        """Let hand make steps until it waits with its flag down."""
        while self.spot(hand)[1] != "low":
            self.step(hand)

    def step_till_barred(self, hand):
        """Let hand make steps until it is barred."""
        while next_step(self.house, self.standing, hand) is not None:
            self.step(hand)


def stops(way, place):
    """Return the places of the last enterings of the rooms that are held at place, in order, and place."""
    return tuple(last_entering(way, place, room) for room in held(way, place)) + (place,)


def course_to(house, choice):
    """Return the course to where the chosen hands stand at their places, and all others rest."""
    rooms = order_of(house, choice)
    if rooms is None:
        raise Unfit()
    course = Course(house)
    for hand, place in chosen(choice):
        course.step_to(hand, stops(house[1][hand], place)[0])
    for room in rooms:
        hand = keepers(house, choice, room)[0]
        way, place = house[1][hand], choice[hand]
        course.step_to(hand, stops(way, place)[held(way, place).index(room) + 1])
    return course


def meeting(house, choice):
    """Return a run that leads to where the chosen hands stand at their places, and all others rest."""
    return tuple(course_to(house, choice).run)
