"""Orders of time: whether the hands of a wait ring can all come to wait for one another."""

from roomways.kinds import is_integer
from roomways.standings import even_ones


def next_one(ring, hand):
    """Return the hand behind this one in ring, of the last one the first."""
    return ring[(ring.index(hand) + 1) % len(ring)]


def handings(house, room, ring, hand):
    """Return the events by which hand hands over to others of ring, in order."""
    return tuple(("hand", hand, other) for other in even_ones(house, room, hand) if other in ring)


def looks(house, room, ring, hand):
    """Return the events by which hand looks at others of ring ahead of its next one, in order."""
    _, orders = house[0][room]
    ahead = orders[hand][:orders[hand].index(next_one(ring, hand))]
    return tuple(("look", hand, other) for other in ahead if other in ring)


def own_events(house, room, ring, hand):
    """Return the events of hand in ring, in the order in which they come."""
    return (("raise", hand),) + handings(house, room, ring, hand) + looks(house, room, ring, hand)


def events(house, room, ring):
    """Return all events of the hands of ring, ascending."""
    return tuple(sorted([event for hand in ring for event in own_events(house, room, ring, hand)]))


def pairs_handed(house, room, ring):
    """Return the pairs of hands the first of which has to hand over to the second one ahead of that one's handing."""
    pairs = []
    for hand in ring:
        even = even_ones(house, room, hand)
        if next_one(ring, hand) in even:
            pairs.append((next_one(ring, hand), hand))
        # A look ahead of the other one's raising is behind the hand's own handing, too.
        pairs.extend([(hand, other) for _, _, other in looks(house, room, ring, hand) if other in even])
    return pairs


def pairs_unseen(house, room, ring):
    """Return the looks at hands that are not even with the one that looks, as pairs of these two."""
    pairs = []
    for hand in ring:
        even = even_ones(house, room, hand)
        pairs.extend([(hand, other) for _, _, other in looks(house, room, ring, hand) if other not in even])
    return pairs


class Tale:
    """What is told of a wait ring: the events of its hands, and which of them need which others ahead."""

    def __init__(self, house, room, ring):
        self.rows = [own_events(house, room, ring, hand) for hand in ring]
        self.numbers = {hand: number for number, hand in enumerate(ring)}
        self.handed = [1 + len(handings(house, room, ring, hand)) for hand in ring]
        self.needs = {}
        for one, other in pairs_handed(house, room, ring):
            self.needs.setdefault(("hand", other, one), []).append(("hand", one, other))
        for hand, other in pairs_unseen(house, room, ring):
            self.needs.setdefault(("raise", other), []).append(("look", hand, other))
        self.tried = {}

    def has_come(self, counts, event):
        """Tell whether event came, if so many of each hand's events did."""
        number = self.numbers[event[1]]
        return event in self.rows[number][:counts[number]]

    def passes(self, counts, other):
        """Tell whether a look at the other hand goes on then."""
        number = self.numbers[other]
        return counts[number] == 0 or counts[number] >= self.handed[number]

    def can_come(self, counts, event):
        """Tell whether event can come then, if it is the next one of its hand."""
        if event[0] == "look" and not self.passes(counts, event[2]):
            return False
        return all([self.has_come(counts, other) for other in self.needs.get(event, [])])

    def coming(self, counts, raising):
        """Return the events that can come next then: the raisings, or all others."""
        ahead = [row[many] for row, many in zip(self.rows, counts) if many < len(row)]
        return [event for event in ahead if (event[0] == "raise") == raising and self.can_come(counts, event)]

    def counted(self, counts, told):
        """Return how many of each hand's events came when those of told came, too."""
        more = [0] * len(counts)
        for event in told:
            more[self.numbers[event[1]]] += 1
        return tuple(one + other for one, other in zip(counts, more))

    def told_behind(self, counts):
        """Return in an order in which they can come all events that did not come then, None if there is none."""
        told = []
        # Raisings alone stand in the way of others: so what is no raising comes as early as can be.
        found = self.coming(counts, False)
        while found:
            told.extend(found)
            counts = self.counted(counts, found)
            found = self.coming(counts, False)
        if counts == tuple(len(row) for row in self.rows):
            return told
        if counts in self.tried:
            return None
        self.tried[counts] = True
        for event in self.coming(counts, True):
            behind = self.told_behind(self.counted(counts, [event]))
            if behind is not None:
                return told + [event] + behind
        return None


def order_of_time(house, room, ring):
    """Return an order of time of a wait ring, None if there is none."""
    told = Tale(house, room, ring).told_behind((0,) * len(ring))
    if told is None:
        return None
    return tuple(told)


def is_event_form(value):
    """Tell whether value is a word and integers."""
    return isinstance(value, tuple) and len(value) > 1 and all([is_integer(item) for item in value[1:]])


def own_error(house, room, ring, value):
    """Return the first item of these events that does not stand in the order of its hand, None if there is none."""
    left = {hand: list(own_events(house, room, ring, hand)) for hand in ring}
    for place, event in enumerate(value):
        if left[event[1]].pop(0) != event:
            return ("own", place)
    return None


def is_look_as_told(house, room, value, place):
    """Tell whether the look at this place of value stands as an order of time asks."""
    _, hand, other = value[place]
    if ("raise", other) in value[place:]:
        return True
    if other not in even_ones(house, room, hand):
        return False
    if value.index(("hand", hand, other)) > value.index(("hand", other, hand)):
        return False
    return not [event for event in value[place:] if event[:2] == ("hand", other)]


def looks_error(house, room, value):
    """Return the first look that is not as told, None if there is none."""
    for place, event in enumerate(value):
        if event[0] == "look" and not is_look_as_told(house, room, value, place):
            return ("look", place)
    return None


def tokens_error(house, room, ring, value):
    """Return the least hand the token of which and its next one is not handed over as told, None if there is none."""
    for hand in sorted(ring):
        other = next_one(ring, hand)
        if other in even_ones(house, room, hand):
            if value.index(("hand", other, hand)) > value.index(("hand", hand, other)):
                return ("token", hand)
    return None


def items_error(told, value):
    """Return what is wrong with the items of value, if they are to be all that is told, each once; None if nothing."""
    for place, item in enumerate(value):
        if not is_event_form(item) or item not in told or item in value[:place]:
            return ("event", place)
    for event in told:
        if event not in value:
            return ("lacks", event)
    return None


def time_error(house, room, ring, value):
    """Return None if value is an order of time of a wait ring, otherwise what is wrong with it."""
    if not isinstance(value, tuple):
        return "form"
    error = items_error(events(house, room, ring), value)
    if error is None:
        error = own_error(house, room, ring, value)
    if error is None:
        error = looks_error(house, room, value)
    if error is None:
        error = tokens_error(house, room, ring, value)
    return error
