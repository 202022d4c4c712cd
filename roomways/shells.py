"""Shells: lines that ask a house, and that tell an office what is done."""

from roomways.errors import BadHouse, BadText, NothingToUndo, Refused, TooMany, Unfit
from roomways.gates import fewest_gate
from roomways.homes import home_bound
from roomways.housetexts import house_text, read_house
from roomways.keepouts import can_be_kept_out
from roomways.numbers import numbers
from roomways.officelogs import do_edit, log_text, read_door, read_lead
from roomways.offices import Office
from roomways.standingtexts import standing_text
from roomways.steps import movers, next_step
from roomways.stuckness import stuck_ring
from roomways.together import comes_together

HANDS = ("0", "1", "2", "3", "4")
ROOMS = ("0", "1", "2", "3", "4", "5")
LONE_WORDS = (
    "open", "undo", "standing", "inside", "entered", "movers", "waits", "log",
    "text", "stuck", "bound", "gate", "numbers",
)
WORDS_OF_HOUSE = ("open", "text", "stuck", "bound", "gate", "numbers", "kept", "together")
WORDS_OF_OFFICE = (
    "go", "build", "lead", "undo", "standing", "inside", "entered", "movers", "next", "waits", "log",
)


def spaced(items):
    """Return the texts of items with a blank between two."""
    return " ".join([str(item) for item in items])


def rows_text(rows):
    """Return the items of these rows, with "; " between two rows, "nobody" if there are none."""
    return "; ".join([spaced(row) for row in rows]) or "nobody"


def yes_or_no(told):
    """Return the word for a bool."""
    return "yes" if told else "no"


def tell_standing(office):
    """Return the text of the present standing."""
    return standing_text(office.house, office.standing)


def tell_inside(office):
    """Return for each room who holds it."""
    return spaced([hands[0] if hands else "-" for hands in office.inside()])


def tell_entered(office):
    """Return who entered which rooms."""
    return rows_text(office.entered())


def tell_movers(office):
    """Return who is not barred."""
    return spaced(movers(office.house, office.standing)) or "nobody"


def tell_waits(office):
    """Return who waits ahead of which room for whom."""
    return rows_text(office.waits())


def tell_log(office):
    """Return the text of the edits that stand."""
    return log_text(office.edits)


def tell_stuck(house):
    """Return the ring by which house can get stuck."""
    ring = stuck_ring(house)
    if ring is None:
        return "never"
    return spaced(ring[:-1] + tuple([item for pair in ring[-1] for item in pair]))


def tell_bound(house):
    """Return how many steps all make at most till they rest."""
    return str(home_bound(house))


def tell_gate(house):
    """Return which hands have to pass one gate."""
    return spaced(fewest_gate(house)) or "nobody"


def tell_numbers(house):
    """Return numbers of house."""
    given = numbers(house)
    return "none" if given is None else spaced(given)


def tell_text(house):
    """Return the text of house."""
    return house_text(house)


TOLD_OF_HOUSE = {
    "text": tell_text, "stuck": tell_stuck, "bound": tell_bound, "gate": tell_gate, "numbers": tell_numbers,
}
TOLD_OF_OFFICE = {
    "standing": tell_standing, "inside": tell_inside, "entered": tell_entered, "movers": tell_movers,
    "waits": tell_waits, "log": tell_log,
}


def read_line(line):
    """Return the word of line and what it tells behind that, None if it is no line."""
    if line in LONE_WORDS:
        return (line,)
    word, blank, told = line.partition(" ")
    if word in ("house", "together") and blank:
        return (word, told)
    if word in ("go", "next", "kept") and told in HANDS:
        return (word, int(told))
    figure, blank, text = told.partition(" ")
    if blank and ((word == "build" and figure in ROOMS) or (word == "lead" and figure in HANDS)):
        return (word, int(figure), text)
    return None


def read_item(way, item):
    """Return the place of way of which item is the text, None if it is the text of none."""
    for place in range(len(way)):
        if item == str(place):
            return place
    return None


def read_choice(house, text):
    """Return the choice of house of which text is the text, None if it is the text of none."""
    items = text.split(" ")
    if len(items) != len(house[1]):
        return None
    choice = tuple([read_item(way, item) for way, item in zip(house[1], items)])
    if any([place is None and item != "-" for place, item in zip(choice, items)]):
        return None
    return choice


def read_edit_of(told):
    """Return the edit that a line tells, its word and its hand or room being read."""
    if told[0] == "build":
        return ("build", told[1], read_door(told[2]))
    if told[0] == "lead":
        return ("lead", told[1], read_lead(told[2]))
    return told


class Shell:
    """Does what lines say, and answers each by a string."""

    def __init__(self):
        self.house = None
        self.office = None

    def say(self, line):
        """Do what line says, and return the answer."""
        told = read_line(line) if isinstance(line, str) else None
        if told is None:
            return "what"
        lack = self.what_lacks(told)
        if lack is not None:
            return lack
        try:
            return self.answer_to(told)
        except BadText:
            return "error BadText"
        except BadHouse:
            return "error BadHouse"
        except Refused:
            return "error Refused"
        except TooMany:
            return "error TooMany"
        except NothingToUndo:
            return "error NothingToUndo"
        except Unfit:
            return "error Unfit"

    def what_lacks(self, told):
        """Return what the shell lacks to answer, None if it lacks nothing."""
        word = told[0]
        if word in WORDS_OF_HOUSE and self.house is None:
            return "no house"
        if word in WORDS_OF_OFFICE and self.office is None:
            return "no office"
        if word == "kept" and told[1] >= len(self.house[1]):
            return "no hand"
        if word == "next" and told[1] >= len(self.office.house[1]):
            return "no hand"
        if word == "together" and read_choice(self.house, told[1]) is None:
            return "no choice"
        return None

    def answer_to(self, told):
        """Do what the line says, and return the answer, nothing lacking."""
        word = told[0]
        if word in TOLD_OF_HOUSE:
            tell = TOLD_OF_HOUSE[word]
            return tell(self.house)
        if word in TOLD_OF_OFFICE:
            tell = TOLD_OF_OFFICE[word]
            return tell(self.office)
        if word == "kept":
            return yes_or_no(can_be_kept_out(self.house, told[1]))
        if word == "together":
            return yes_or_no(comes_together(self.house, read_choice(self.house, told[1])))
        if word == "next":
            return next_step(self.office.house, self.office.standing, told[1]) or "barred"
        return self.change(told)

    def change(self, told):
        """Do what changes the shell or its office, and return the answer."""
        word = told[0]
        if word == "house":
            return self.take_house(told[1])
        if word == "open":
            self.office = Office(self.house)
            return "open"
        if word == "undo":
            return f"version {self.office.undo()}"
        return f"version {do_edit(self.office, read_edit_of(told))}"

    def take_house(self, text):
        """Let the shell have the house of which text is the text, and no office."""
        self.house = read_house(text)
        self.office = None
        return f"{len(self.house[0])} rooms, {len(self.house[1])} hands"
