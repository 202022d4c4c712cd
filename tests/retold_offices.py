"""What L tells, told once more: an office that keeps its edits alone, and does them all again for each answer."""

from roomways.errors import BadHouse, BadLog, BadText, NothingToUndo, Refused, TooMany, WayError
from tests import retold
from tests import retold_programs
from tests import retold_rings
from tests import retold_stalls


def with_item(row, place, item):
    return tuple(item if k == place else other for k, other in enumerate(row))


class Office:
    """Keeps the first house and the edits; the rest is worked out anew."""

    def __init__(self, house):
        error = retold.house_error(house)
        if error is not None:
            raise BadHouse(error)
        self.first = house
        self.edits = ()

    def now(self):
        """The house, the standing, and the pairs entered, behind all edits that stand."""
        house, standing, pairs = self.first, retold.start(self.first), ()
        for word, number, *more in self.edits:
            if word == "go":
                pairs += retold.entered(house, standing, (number,))
                standing = retold.stepped(house, standing, number)
            else:
                rooms, ways = house
                house = (with_item(rooms, number, more[0]), ways) if word == "build" else (
                    rooms, with_item(ways, number, more[0]))
                standing = retold.start(house)
        return house, standing, pairs

    house = property(lambda self: self.now()[0])
    standing = property(lambda self: self.now()[1])
    version = property(lambda self: len(self.edits))

    def entered(self):
        return self.now()[2]

    def inside(self):
        return retold.inside(*self.now()[:2])

    def waits(self):
        return retold.barred(*self.now()[:2])

    def take(self, edit):
        self.edits += (edit,)
        return len(self.edits)

    def check(self, rests):
        if len(self.edits) == 60:
            raise TooMany(60)
        if rests and any(spot != (0, "rest", 0) for spot in self.standing[0]):
            raise Refused("busy")

    def check_hand(self, hand):
        if not retold.integer(hand) or hand not in range(len(self.house[1])):
            raise Refused("hand")

    def go(self, hand):
        self.check(False)
        self.check_hand(hand)
        if hand not in retold.movers(self.house, self.standing):
            raise Refused("barred")
        return self.take(("go", hand))

    def build(self, room, door):
        self.check(True)
        rooms, ways = self.house
        if not retold.integer(room) or room not in range(len(rooms)):
            raise Refused("room")
        error = retold.house_error((with_item(rooms, room, door), ways))
        if error is not None:
            raise BadHouse(error)
        return self.take(("build", room, door))

    def lead(self, hand, way):
        self.check(True)
        self.check_hand(hand)
        rooms, ways = self.house
        error = retold.house_error((rooms, with_item(ways, hand, way)))
        if error is not None:
            raise BadHouse(error)
        return self.take(("lead", hand, way))

    def undo(self):
        if not self.edits:
            raise NothingToUndo()
        self.edits = self.edits[:-1]
        return len(self.edits)

    def twin(self):
        other = Office(self.first)
        other.edits = self.edits
        return other


def same(one, other):
    """Whether both offices are equal."""
    return one.now() == other.now()


def room_text(room):
    return retold.house_text(((room,), ()))


def way_text(way):
    return retold.house_text(((), (way,)))[4:]


def log_text(log):
    rows = []
    for word, number, *more in log:
        rows.append(f"{word} {number}")
        if word == "build":
            rows[-1] += " " + room_text(more[0])
        if word == "lead":
            rows[-1] += " " + way_text(more[0])
    return "".join(row + "\n" for row in rows)


def read_room(text):
    """The room of which text is the line, as it may stand in an office; "none" if there is none."""
    told = retold.read_line(text)
    if told is None or told[0] != "room":
        return "none"
    room = told[1]
    if room is not None and not (1 <= len(room[0]) <= 5 and retold.door_error(len(room[0]), room) is None):
        return "none"
    return room


def read_way(text):
    """The way of which text is the line without "way ", as it may stand in an office; "none" if there is none."""
    told = retold.read_line("way " + text)
    if told is None or told[0] != "way" or retold.way_error(6, told[1]) is not None:
        return "none"
    return told[1]


def read_edit(line):
    """The edit of which line is the text, None if it is the text of none."""
    for hand in range(5):
        if line == f"go {hand}":
            return ("go", hand)
        if line.startswith(f"lead {hand} ") and read_way(line[7:]) != "none":
            return ("lead", hand, read_way(line[7:]))
    for room in range(6):
        if line.startswith(f"build {room} ") and read_room(line[8:]) != "none":
            return ("build", room, read_room(line[8:]))
    return None


def read_log(value):
    if type(value) is not str:
        raise BadText(0)
    lines = value.split("\n")
    lines = lines[:-1] if lines[-1] == "" else lines
    for place, line in enumerate(lines):
        if read_edit(line) is None or place > 59:
            raise BadText(place)
    return tuple(read_edit(line) for line in lines)


def office_behind(house, value):
    office = Office(house)
    if type(value) is not tuple:
        raise BadLog(0)
    for place, item in enumerate(value):
        words = {"go": 2, "build": 3, "lead": 3}
        if type(item) is not tuple or not item or type(item[0]) is not str or words.get(item[0]) != len(item):
            raise BadLog(place)
        try:
            getattr(office, item[0])(*item[1:])
        except WayError:
            raise BadLog(place) from None
    return office


def read_choice(house, text):
    """The choice of which text is the text, None if of none."""
    items = text.split(" ")
    names = [{"-": None} | {str(place): place for place in range(len(way))} for way in house[1]]
    if len(items) != len(names) or any(item not in places for item, places in zip(items, names)):
        return None
    return tuple(places[item] for item, places in zip(items, names))


def rows(told):
    return "; ".join(" ".join(map(str, row)) for row in told) if told else "nobody"


class Shell:
    """The answers of a shell, line by line; for houses with few rings."""

    def __init__(self):
        self.house = self.office = None

    def say(self, line):
        if type(line) is not str:
            return "what"
        for test in (self.of_office, self.of_house):
            told = test(line)
            if told is not None:
                try:
                    return told()
                except WayError as error:
                    return "error " + type(error).__name__
        return "what"

    def figure(self, text, many):
        return int(text) if len(text) == 1 and text in "0123456789" and int(text) < many else None

    def of_office(self, line):
        """What the line asks of the office, to be called; None if it is no such line."""
        word, _, rest = line.partition(" ")
        first = rest[:1]
        if line in ("undo", "standing", "inside", "entered", "movers", "waits", "log"):
            ask = getattr(self, "tell_" + line)
        elif word in ("go", "next") and self.figure(rest, 5) is not None:
            ask = (lambda: self.edit("go", int(rest))) if word == "go" else (lambda: self.tell_next(int(rest)))
        elif word == "build" and self.figure(first, 6) is not None and rest[1:2] == " ":
            ask = lambda: self.edit("build", int(first), read_room(rest[2:]))
        elif word == "lead" and self.figure(first, 5) is not None and rest[1:2] == " ":
            ask = lambda: self.edit("lead", int(first), read_way(rest[2:]))
        else:
            return None
        return ask if self.office is not None else lambda: "no office"

    def edit(self, word, *arguments):
        if arguments[-1] == "none":
            raise BadText(0)
        return f"version {getattr(self.office, word)(*arguments)}"

    def tell_undo(self):
        return f"version {self.office.undo()}"

    def tell_standing(self):
        return retold.standing_text(*self.office.now()[:2])

    def tell_inside(self):
        return " ".join([str(*hands) or "-" for hands in self.office.inside()])

    def tell_entered(self):
        return rows(self.office.entered())

    def tell_movers(self):
        return " ".join(map(str, retold.movers(*self.office.now()[:2]))) or "nobody"

    def tell_waits(self):
        return rows(self.office.waits())

    def tell_log(self):
        return log_text(self.office.edits)

    def tell_next(self, hand):
        if hand >= len(self.office.house[1]):
            return "no hand"
        return retold.next_step(*self.office.now()[:2], hand) or "barred"

    def of_house(self, line):
        """What the line asks of the house, or does with it, to be called; None if it is no such line."""
        word, blank, rest = line.partition(" ")
        if word == "house" and blank:
            return lambda: self.take(retold.read_house(rest))
        if line in ("open", "text", "stuck", "bound", "gate", "numbers"):
            ask = getattr(self, "say_" + line)
        elif word == "kept" and self.figure(rest, 5) is not None:
            ask = lambda: self.say_kept(int(rest))
        elif word == "together" and blank:
            ask = lambda: self.say_together(rest)
        else:
            return None
        return ask if self.house is not None else lambda: "no house"

    def take(self, house):
        self.house, self.office = house, None
        return f"{len(house[0])} rooms, {len(house[1])} hands"

    def say_open(self):
        self.office = Office(self.house)
        return "open"

    def say_text(self):
        return retold.house_text(self.house)

    def say_stuck(self):
        ring = retold_rings.stuck_ring(self.house)
        if ring is None:
            return "never"
        return " ".join([ring[0]] + [str(room) for room in ring[1:-1]] + [f"{hand} {place}" for hand,
                                                                          place in ring[-1]])

    def say_bound(self):
        return str(retold_stalls.home_bound(self.house))

    def say_gate(self):
        return " ".join(map(str, retold_stalls.fewest_gate(self.house))) or "nobody"

    def say_numbers(self):
        """The words are free as far as there are several numbers; this tells whether there are some."""
        return "some" if retold_programs.has_numbers(self.house) else "none"

    def say_kept(self, hand):
        if hand >= len(self.house[1]):
            return "no hand"
        return "yes" if retold_stalls.can_be_kept_out(self.house, hand) else "no"

    def say_together(self, text):
        choice = read_choice(self.house, text)
        if choice is None:
            return "no choice"
        return "yes" if retold_rings.comes_together(self.house, choice) else "no"
