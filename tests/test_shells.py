"""Shells: L7 and L8, and what L9 says of them."""

import random
import time

from roomways import shells
from roomways.housetexts import house_text
from roomways.knownhouses import known
from roomways.numbers import numbers_error
from roomways.shells import Shell
from tests import retold
from tests import retold_offices as told
from tests import retold_rings
from tests.support import (STRANGE, Case, door_by, door_house, drawn_door, drawn_house, drawn_names, drawn_way,
                           holds_house, rebuilt, renamed, shape, small_house)

SHORT = (("in", 0), ("out", 0))
ONCE = (("in", 0), ("in", 1), ("out", 1), ("out", 0))
BACK = (("in", 1), ("in", 0), ("out", 0), ("out", 1))
EVEN = ((("-", "even"), ("even", "-")), ((1,), (0,)))
OVER = ((("-", "stand"), ("bow", "-")), ((1,), (0,)))
CROSSED, NESTED = ((None, None), (ONCE, BACK)), ((EVEN, OVER), (ONCE, ONCE))
OF_HOUSE = ("open", "text", "stuck", "bound", "gate", "numbers", "kept 0", "kept 4", "together 1 1", "together")
OF_OFFICE = ("go 0", "go 4", "build 0 plain", "build 5 x", "lead 0 +0 -0", "lead 4 x", "undo", "standing", "inside",
             "entered", "movers", "next 0", "next 4", "waits", "log")
NO_LINES = ("", " ", "house", "opens", "open ", " open", "Open", "OPEN", "open\n", "\nopen", "go", "go ", "go 5",
            "go 9", "go 00", "go 01", "go 0 ", "go  0", " go 0", "go 0\n", "go -1", "go 0 0", "goo 0", "go0", "GO 0",
            "Go 0", "build", "build ", "build 0", "build 6", "build 6 plain", "build 7 plain", "build 00 plain",
            "build 0plain", "build  0 plain", "build -1 plain", "build plain", "Build 0 plain", "lead", "lead ",
            "lead 0", "lead 5 +0 -0", "lead 00 +0 -0", "lead  0 +0 -0", "lead +0 -0", "Lead 0 +0 -0", "undo ",
            "undo 1", "Undo", "standing ", "standing 0", "insides", "inside ", "entered ", "movers ", "next", "next ",
            "next 5", "next 0 ", "next  0", "next 00", "next 0 1", "Next 0", "waits ", "wait", "log ", "logs", "text ",
            "Text", "stuck ", "never", "bound ", "bounds", "gate ", "gates", "numbers ", "number", "kept", "kept ",
            "kept 5", "kept 9", "kept 00", "kept 0 ", "kept  0", "kept 0 0", "Kept 0", "together", "Together 1 1",
            "House plain\nway +0 -0", "house\n", "houseplain", "go 10", "go " + "0" * 19000, "go " + "9" * 19000,
            "kept " + "1" * 19000, "build " + "0" * 19000 + " plain", "next " + "4" * 5000, "x" * 20000)
WHOLE = ("standing", "inside", "entered", "movers", "waits", "log", "text", "next 0", "next 1", "stuck")


class ShellCase(Case):
    def setUp(self):
        self.shell, self.other = Shell(), told.Shell()

    def says(self, line):
        """The answer, which has to be as told once more; by place and by name alike."""
        wanted = self.other.say(line)
        found = self.shell.say(rebuilt(line)) if len(repr(line)) % 2 else self.shell.say(line=line)
        if line == "numbers" and wanted == "some":
            self.assertIs(str, type(found))
            given = tuple(int(item) for item in found.split(" "))
            self.assertEqual(found, " ".join(map(str, given)))
            self.assertIsNone(numbers_error(self.shell.house, given))
        else:
            self.assertEqual(shape(wanted), shape(found), repr(line)[:300])
        return found

    def whole(self):
        return [self.shell.say(line) for line in WHOLE]

    def answers(self, answer, *lines):
        for line in lines:
            self.assertEqual(answer, self.says(line), line)

    def unchanged(self, answer, line):
        """The line has this answer, and the shell tells what it told ahead of it."""
        ahead = self.whole()
        self.answers(answer, line)
        self.assertEqual(ahead, self.whole())


class Lines(ShellCase):
    def take(self, house, opened=True):
        self.answers(f"{len(house[0])} rooms, {len(house[1])} hands", "house " + house_text(house))
        if opened:
            self.answers("open", "open")

    def test_no_house_and_no_office(self):
        for line in OF_HOUSE[:-1]:
            self.answers("no house", line)
        for line in OF_OFFICE:
            self.answers("no office", line)
        for line in NO_LINES:
            self.answers("what", line)
        self.answers("no house", "together x", "together ", "kept 4")
        self.take(CROSSED, False)
        for line in OF_OFFICE:
            self.answers("no office", line)
        for line in NO_LINES:
            self.answers("what", line)

    def test_no_lines(self):
        self.take(CROSSED)
        for line in NO_LINES:
            self.unchanged("what", line)
        for value in STRANGE:
            self.unchanged("what", value)
        for value in (["open"], ("open",), {"open": 1}, ("go", 0)):
            self.unchanged("what", value)

    def test_house(self):
        for house in (CROSSED, NESTED, known("table", 5), ((None,), (SHORT,)), known("level", 4),
                      ((None,) * 6, (ONCE,) * 5)):
            self.take(house)
            self.answers(house_text(house), "text")
            self.answers("rest" + ", rest" * (len(house[1]) - 1), "standing") if house[0][0] is None else None
        self.take(CROSSED)
        self.answers("version 1", "go 0")
        for text, answer in (("", "BadText"), ("plain", "BadHouse"), ("plain\n", "BadText"),
                             ("plain\nway +0 -1", "BadHouse"), ("way +0 -0", "BadHouse"),
                             (" " + house_text(CROSSED), "BadText"), ("Plain\nway +0 -0", "BadText"),
                             (house_text(CROSSED) + "\n", "BadText"), ("plain\nway +0 -0\nplain", "BadText"),
                             ("plain\ndoor -s b- 1 0\nway +0 -0", "BadHouse"), ("plain\nway +0 +1 -1 -0", "BadHouse")):
            self.unchanged("error " + answer, "house " + text)
        self.answers("go 0, rest", "standing")
        self.answers("2 rooms, 2 hands", "house " + house_text(CROSSED))
        self.answers("no office", "standing", "undo", "go 0")

    def test_edits(self):
        self.take(CROSSED)
        for k, line in enumerate(("go 0", "go 1", "go 0", "go 1")):
            self.answers(f"version {k + 1}", line)
        for line in ("go 0", "go 1", "go 2", "go 4", "build 0 plain", "lead 0 +0 -0", "build 5 plain", "lead 4 +0 -0"):
            self.unchanged("error Refused", line)
        for line in ("build 0 ", "build 0 x", "lead 0 ", "lead 0 +0", "lead 0 plain", "build 0 +0 -0"):
            self.unchanged("error BadText", line)
        for k in (3, 2, 1, 0):
            self.answers(f"version {k}", "undo")
        self.unchanged("error NothingToUndo", "undo")
        self.answers("version 1", "build 0 door -e e- 1 0")
        self.answers("version 2", "lead 1 +0 -0")
        self.answers("rest, rest; 0", "standing")
        self.answers("build 0 door -e e- 1 0\nlead 1 +0 -0\n", "log")
        self.answers(house_text(CROSSED), "text")
        self.answers("hold 0 1 1 1", "stuck")

    def test_texts_of_no_room_and_no_way(self):
        self.take(CROSSED)
        for text in ("", " ", "plain ", " plain", "Plain", "plain\n", "door", "door ", "door -e b- 1 0", "door -s b- 1",
                     "door -s b- 0 1", "door -s b- 1 0 ", "door  -s b- 1 0", "door -s b- 1 1", "door - 0",
                     "door -- -- 1 0", "way +0 -0", "+0 -0", "door " + "-" * 9000 + " " + "1" * 9000,
                     "door -sssss s-ssss ss-sss sss-ss ssss-s sssss- 12345 02345 01345 01245 01235 01234"):
            self.unchanged("error BadText", "build 0 " + text)
            self.unchanged("error BadText", "build 5 " + text)
        for text in ("", " ", "+0", "+0 -0 ", " +0 -0", "+0  -0", "+0 -1", "-0 +0", "+6 -6", "+0 +0 -0 -0",
                     "way +0 -0", "plain", "+0 -0\n", "0 0", "+0 -0" + " +0 -0" * 12, "+" * 19000):
            self.unchanged("error BadText", "lead 0 " + text)
            self.unchanged("error BadText", "lead 4 " + text)
        # These are texts of rooms and ways of other houses: the office refuses them.
        for text in ("door - .", "door -ss s-s ss- 12 02 01", house_text(known("meek", 5)).split("\n")[0]):
            self.unchanged("error BadHouse", "build 0 " + text)
            self.unchanged("error Refused", "build 5 " + text)
        for text in ("+2 -2", "+5 -5", "+0 +5 -5 -0"):
            self.unchanged("error BadHouse", "lead 0 " + text)
            self.unchanged("error Refused", "lead 4 " + text)
        self.answers("version 1", "go 0")
        self.unchanged("error BadText", "build 0 door -e b- 1 0")
        self.unchanged("error Refused", "build 0 door - .")
        self.answers("version 0", "undo")
        self.answers("version 1", "lead 0 " + " ".join(["+0 -0"] * 12))

    def test_sixty(self):
        self.take(((None,), (SHORT,)))
        for k in range(60):
            self.answers(f"version {k + 1}", "go 0")
        for line in ("go 0", "go 3", "build 0 plain", "build 4 plain", "lead 0 +0 -0", "lead 4 +5 -5"):
            self.unchanged("error TooMany", line)
        self.unchanged("error BadText", "build 0 x")
        self.unchanged("error BadText", "lead 4 x")
        self.assertEqual("go 0\n" * 60, self.says("log"))

    def test_of_the_office(self):
        self.take(NESTED)
        for line in ("go 0", "go 0", "go 0", "go 0", "go 1", "go 1", "go 1"):
            self.says(line)
        for line, answer in (("standing", "go 1, look 0 0; 0"), ("inside", "0 -"), ("entered", "0 0"), ("movers", "0"),
                             ("next 0", "raise"), ("next 1", "barred"), ("waits", "1 0 0"), ("next 2", "no hand"),
                             ("next 4", "no hand"), ("log", "go 0\n" * 4 + "go 1\n" * 3)):
            self.answers(answer, line)
        self.take(known("table", 5))
        for hand in (0, 1, 2, 3, 4) * 2:
            self.says(f"go {hand}")
        for line, answer in (("inside", "0 1 2 3 4"), ("waits", "0 1 1; 1 2 2; 2 3 3; 3 4 4; 4 0 0"),
                             ("movers", "nobody"), ("entered", "0 0; 1 1; 2 2; 3 3; 4 4"), ("next 4", "barred")):
            self.answers(answer, line)

    def test_of_the_house(self):
        row, meek = known("row", 2), known("meek", 2)
        for house, line, answer in (
                (CROSSED, "stuck", "hold 0 1 1 1"), (CROSSED, "gate", "0 1"), (CROSSED, "numbers", "none"),
                (CROSSED, "bound", "error Unfit"), (CROSSED, "kept 0", "error Unfit"), (NESTED, "stuck", "never"),
                (NESTED, "bound", "14"), (NESTED, "gate", "nobody"), (NESTED, "numbers", "0 1"),
                (NESTED, "kept 0", "no"), (NESTED, "kept 1", "no"), (NESTED, "kept 2", "no hand"),
                (NESTED, "kept 4", "no hand"), (row, "kept 1", "yes"), (meek, "stuck", "door 0 0 0 1 0"),
                (meek, "kept 4", "no hand"), (meek, "kept 1", "error Unfit"),
                (known("proud", 2), "stuck", "door 0 0 0 1 0"), (known("table", 3), "stuck", "hold 0 1 1 1 2 1"),
                (known("table", 3), "gate", "0 1"), (((None,), (SHORT,)), "numbers", "0"), (row, "bound", "8")):
            self.take(house, False)
            self.answers(answer, line)

    def test_too_many_rings(self):
        for house, answer in ((holds_house(40), "0 1 2 3 4"), (holds_house(41), "error TooMany"),
                              (door_house(5, 8, 5), "0 1"), (door_house(5, 8, 5, True), "error TooMany")):
            self.take(house)
            self.assertEqual(answer, self.shell.say("gate"))
            self.assertEqual("error Unfit", self.shell.say("bound"))
            self.assertEqual("error Unfit", self.shell.say("kept 0"))
            self.assertEqual("yes", self.shell.say("together - - - - -"))

    def test_together(self):
        self.take(CROSSED, False)
        for text, answer in (("1 1", "yes"), ("2 1", "no"), ("- 3", "yes"), ("- -", "yes"), ("0 0", "yes"),
                             ("3 3", "no"), ("3 -", "yes"), ("2 2", "no")):
            self.answers(answer, "together " + text)
        for text in ("1", "", " ", "1 1 1", "01 1", "1 01", "00 0", "4 1", "1 4", "-1 1", "+1 1", "1  1", " 1 1",
                     "1 1 ", "1,1", "x 1", "- ", " -", "-- 1", "1 -1", "1 1\n", "100 1", "1" * 19000,
                     "1 " + "2" * 9000, "- " * 9000, "None 1", "1\n1"):
            self.answers("no choice", "together " + text)
        long = ((None,) * 2, (SHORT * 12, ONCE))
        self.take(long, False)
        for place in range(30):
            self.answers(("no", "yes")[place % 2 == 0] if place < 24 else "no choice", f"together {place} 2")
            self.answers("yes" if place < 24 else "no choice", f"together {place} -")
            self.answers("no choice", f"together - {place + 4}", f"together 0{place} -")

    def test_the_house_is_what_it_was(self):
        self.take(CROSSED)
        self.answers("version 1", "lead 1 +0 +1 -1 -0")
        self.answers("hold 0 1 1 1", "stuck")
        self.answers("yes", "together 1 1")
        self.answers("open", "open")
        self.answers("", "log")
        for hand in (0, 1, 0, 1):
            self.says(f"go {hand}")
        self.answers("nobody", "movers")


def drawn_line(draw, shell):
    """A drawn line, mostly one that is done."""
    house = shell.house or CROSSED
    hands, many = len(house[1]), len(house[0])
    kind = draw.random()
    if kind < 0.5:
        return f"go {draw.randrange(hands)}"
    if kind < 0.6:
        room = draw.choice((None, drawn_door(draw, hands), drawn_door(draw, draw.randint(1, 5))))
        return f"build {draw.randrange(many)} {told.room_text(room)}"
    if kind < 0.7:
        return f"lead {draw.randrange(hands)} {told.way_text(drawn_way(draw, many, draw.choice((2, 4, 6))))}"
    if kind < 0.78:
        return "together " + " ".join(draw.choice(["-", str(draw.randrange(len(way)))]) for way in house[1])
    if kind < 0.96:
        return draw.choice(("undo", "standing", "inside", "entered", "movers", "waits", "log", "text", "stuck",
                            "bound", "gate", "numbers", "next 0", "next 1", "next 4", "kept 0", "kept 1", "go 4",
                            "build 5 plain"))
    return draw.choice(("open", "house x", "house plain\nway +0 -0", "nothing", "go 7", "build 0 y", "lead 0 y",
                        "together 1"))


class Drawn(ShellCase):
    def test_drawn_lines(self):
        draw = random.Random(311)
        seen = {}
        for k in range(60):
            house = small_house(draw, draw.randint(1, 3), doors=(0.6, 0.1)[k % 2])
            self.says("house " + house_text(house))
            self.says("open")
            self.answers("error NothingToUndo", "undo")
            for _ in range(60):
                answer = self.says(drawn_line(draw, self.shell))
                word = answer if answer.startswith(("error", "no ", "what")) else answer.split(" ")[0]
                seen[word] = seen.get(word, 0) + 1
            self.says("stuck")
            seen[self.says("stuck").split(" ")[0]] = 1
            self.check_log()
        for word in ("error Refused", "error BadText", "error BadHouse", "error Unfit", "no hand", "what",
                     "version", "yes", "no", "never", "hold", "door", "nobody", "barred", "no choice"):
            self.assertGreater(seen.get(word, 0), 0, word)

    def check_log(self):
        """A new shell to which the house and the lines of the log are said tells the same."""
        office = self.shell.office
        if office is not None:
            other = Shell()
            other.say("house " + house_text(office.first))
            other.say("open")
            for line in self.shell.say("log").split("\n")[:-1]:
                self.assertEqual("version", other.say(line).split(" ")[0])
            for line in ("standing", "inside", "entered", "movers", "waits", "log"):
                self.assertEqual(self.shell.say(line), other.say(line))

    def test_shells_stay_apart(self):
        one, other = Shell(), Shell()
        one.say("house " + house_text(CROSSED))
        self.assertEqual("no house", other.say("open"))
        other.say("house " + house_text(CROSSED))
        one.say("open")
        self.assertEqual("no office", other.say("standing"))
        other.say("open")
        one.say("go 0")
        self.assertEqual(("go 0, rest", "rest, rest"), (one.say("standing"), other.say("standing")))

    def test_asked_twice(self):
        self.says("house " + house_text(NESTED))
        self.says("open")
        self.says("go 0")
        first = self.whole()
        Shell().say("house " + house_text(CROSSED))
        self.assertEqual([first] * 3, [self.whole() for _ in range(3)])

    def test_rooms_called_otherwise(self):
        draw = random.Random(312)
        for _ in range(30):
            house = small_house(draw, draw.randint(1, 3))
            one, other = Shell(), Shell()
            one.say("house " + house_text(house))
            other.say("house " + house_text(renamed(house, drawn_names(draw, house))))
            for shell in (one, other):
                shell.say("open")
            for line in ("bound", "gate", "kept 0", "kept 1", "together" + " 1" * len(house[1])):
                self.assertEqual(one.say(line), other.say(line))
            for _ in range(20):
                line = f"go {draw.randrange(3)}"
                self.assertEqual(one.say(line), other.say(line))
            for line in ("movers", "next 0", "log"):
                self.assertEqual(one.say(line), other.say(line))

    def test_great_houses(self):
        draw = random.Random(313)
        worst = 0
        houses = [drawn_house(draw, hands=5, many=6) for _ in range(8)]
        houses += [holds_house(100), holds_house(44), door_house(11, 11, 12)]
        houses += [((door_by(("-eeee", "e-eee", "ee-ee", "eee-e", "eeee-")),) * 6, houses[0][1])]
        for house in houses:
            shell = Shell()
            shell.say("house " + house_text(house))
            shell.say("open")
            lines = [f"go {draw.randrange(5)}" for _ in range(50)]
            lines += list(WHOLE) + ["bound", "gate", "numbers", "kept 0", "kept 4", "next 4",
                                    "together" + " 5" * 5, "together" + " 1" * 5]
            for line in lines:
                began = time.time()
                shell.say(line)
                worst = max(worst, time.time() - began)
        self.assertLess(worst, 5)

    def test_methods_stand_in_the_class(self):
        code = vars(shells.Shell)["say"].__code__
        self.assertEqual(("self", "line"), code.co_varnames[:code.co_argcount])
        self.assertEqual("roomways.shells", shells.Shell.__module__)

    def test_stuck_rings(self):
        draw = random.Random(314)
        seen = {}
        for _ in range(60):
            house = small_house(draw, draw.randint(2, 4))
            shell = Shell()
            shell.say("house " + house_text(house))
            ring = retold_rings.stuck_ring(house)
            flat = "never" if ring is None else " ".join(
                [ring[0]] + [str(item) for item in ring[1:-1]] + [str(item) for pair in ring[-1] for item in pair])
            self.assertEqual(flat, shell.say("stuck"))
            seen[flat.split(" ")[0]] = True
            self.assertEqual(retold.house_text(house), shell.say("text"))
        self.assertEqual({"never": True, "hold": True, "door": True}, seen)
