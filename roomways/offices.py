"""Offices: a house that is kept while hands go their ways, and built otherwise while all rest."""

from roomways.bounds import MAX_EDITS
from roomways.errors import BadHouse, NothingToUndo, Refused, TooMany
from roomways.houses import house_error
from roomways.kinds import is_below
from roomways.standings import holders, start
from roomways.steps import barred, next_step, standing_behind
from roomways.ways import wish


def refuse_no_house(value):
    """Raise BadHouse if value is no house."""
    error = house_error(value)
    if error is not None:
        raise BadHouse(error)


def exchanged(row, place, item):
    """Return row with this item at place."""
    return row[:place] + (item,) + row[place + 1:]


class Office:
    """A house, the standing to which the steps that were told have led, and the edits by which it came so."""

    def __init__(self, house):
        refuse_no_house(house)
        self.first = house
        self.house = house
        self.standing = start(house)
        self.edits = ()
        self.version = 0
        self.pairs = ()
        # What undo leads back to: house, standing and pairs ahead of each edit that stands.
        self.past = ()

    def __eq__(self, other):
        if not isinstance(other, Office):
            return False
        return self.house == other.house and self.standing == other.standing and self.pairs == other.pairs

    def __ne__(self, other):
        return not self == other

    def inside(self):
        """Return for each room the hands that hold it."""
        return tuple(holders(self.house, self.standing, room) for room in range(len(self.house[0])))

    def waits(self):
        """Return for each barred hand the triple of it, the room and the hand for which it waits."""
        return barred(self.house, self.standing)

    def entered(self):
        """Return the pairs of a hand and the room that it entered, in order, by all edits that stand."""
        return self.pairs

    def refuse_more_edits(self):
        """Raise TooMany if as many edits stand as may be."""
        if len(self.edits) == MAX_EDITS:
            raise TooMany(MAX_EDITS)

    def refuse_no_hand(self, hand):
        """Raise Refused unless hand is a hand of the present house."""
        if not is_below(hand, len(self.house[1])):
            raise Refused("hand")

    def refuse_busy(self):
        """Raise Refused unless all rest."""
        if any([word != "rest" for _, word, _ in self.standing[0]]):
            raise Refused("busy")

    def keep(self, edit, house, standing, pairs):
        """Let this edit stand, by which all is so then, and return the version."""
        self.past = self.past + ((self.house, self.standing, self.pairs),)
        self.edits = self.edits + (edit,)
        self.version = len(self.edits)
        self.house = house
        self.standing = standing
        self.pairs = pairs
        return self.version

    def go(self, hand):
        """Let hand make its next step, and return the version."""
        self.refuse_more_edits()
        self.refuse_no_hand(hand)
        step = next_step(self.house, self.standing, hand)
        if step is None:
            raise Refused("barred")
        pairs = self.pairs
        if step == "enter":
            place, _, _ = self.standing[0][hand]
            pairs = pairs + ((hand, wish(self.house[1][hand], place)),)
        standing = standing_behind(self.house, self.standing, hand, step)
        return self.keep(("go", hand), self.house, standing, pairs)

    def build(self, room, door):
        """Let the room be as door tells from now on, and return the version."""
        self.refuse_more_edits()
        self.refuse_busy()
        rooms, ways = self.house
        if not is_below(room, len(rooms)):
            raise Refused("room")
        house = (exchanged(rooms, room, door), ways)
        refuse_no_house(house)
        return self.keep(("build", room, door), house, start(house), self.pairs)

    def lead(self, hand, way):
        """Let hand have this way from now on, and return the version."""
        self.refuse_more_edits()
        self.refuse_busy()
        self.refuse_no_hand(hand)
        rooms, ways = self.house
        house = (rooms, exchanged(ways, hand, way))
        refuse_no_house(house)
        return self.keep(("lead", hand, way), house, start(house), self.pairs)

    def undo(self):
        """Take back the last edit that stands, and return the version."""
        if not self.edits:
            raise NothingToUndo()
        self.house, self.standing, self.pairs = self.past[-1]
        self.past = self.past[:-1]
        self.edits = self.edits[:-1]
        self.version = len(self.edits)
        return self.version

    def twin(self):
        """Return an office that is as this one, and has come so by the same edits."""
        other = Office(self.first)
        other.house = self.house
        other.standing = self.standing
        other.edits = self.edits
        other.version = self.version
        other.pairs = self.pairs
        other.past = self.past
        return other
