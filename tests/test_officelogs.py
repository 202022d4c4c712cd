"""Logs of offices: L4 to L6, and what L9 says of them."""

import random
import time

from roomways.errors import BadHouse, BadLog, BadText, WayError
from roomways.houses import house_error
from roomways.housetexts import house_text
from roomways.knownhouses import known
from roomways.officelogs import log_text, office_behind, read_log
from roomways.offices import Office
from tests import retold
from tests import retold_offices as told
from tests.support import (STRANGE, Case, drawn_door, drawn_house, drawn_way, outcome, parts, rebuilt, shape,
                           small_house, variants)
from tests.test_offices import BACK, CROSSED, EVEN, LONE, NESTED, ONCE, OVER, SHORT, drawn_edit, state

SIGNS = "0159 +-.\nsbegoblendwy~A"


def drawn_log(draw, many=8):
    """A drawn tuple of edits, each of which may stand in some office."""
    log = []
    for _ in range(draw.randint(0, many)):
        kind = draw.randrange(3)
        if kind == 0:
            log.append(("go", draw.randrange(5)))
        elif kind == 1:
            log.append(("build", draw.randrange(6), draw.choice((None, drawn_door(draw, draw.randint(1, 5))))))
        else:
            log.append(("lead", draw.randrange(5), drawn_way(draw, 6, draw.choice((2, 4, 6, 24)))))
    return tuple(log)


class LogTexts(Case):
    def both(self, text, log):
        self.tells(text, log_text, log)
        self.tells(log, read_log, text)

    def test_ordinary(self):
        self.both("go 0\nbuild 1 door -s b- 1 0\nlead 4 +1 +0 -0 -1\nbuild 0 plain\n",
                  (("go", 0), ("build", 1, OVER), ("lead", 4, BACK), ("build", 0, None)))
        self.both("", ())
        self.both("build 5 door - .\n", (("build", 5, ((("-",),), ((),))),))
        self.both("lead 0 +5 -5\n", (("lead", 0, (("in", 5), ("out", 5))),))
        for hand in range(5):
            self.both(f"go {hand}\n", (("go", hand),))
            self.both(f"lead {hand} +0 -0\n", (("lead", hand, SHORT),))
        for room in range(6):
            self.both(f"build {room} plain\n", (("build", room, None),))
        door = known("meek", 5)[0][0]
        self.both("build 0 door -bbbb b-bbb bb-bb bbb-b bbbb- 1234 0234 0134 0124 0123\n", (("build", 0, door),))

    def test_line_feeds(self):
        self.tells((("go", 0), ("go", 1)), read_log, "go 0\ngo 1")
        self.tells((("go", 0), ("go", 1)), read_log, "go 0\ngo 1\n")
        for text, place in (("go 0\n\n", 1), ("\n", 0), ("\n\n", 0), ("\ngo 0", 0), ("go 0\n\ngo 1", 1),
                            ("go 0\ngo 1\n\n\n", 2), (" ", 0), ("go 0\n ", 1)):
            self.raises(BadText(place), read_log, text)

    def test_sixty(self):
        self.tells((("go", 0),) * 60, read_log, "go 0\n" * 60)
        self.tells((("go", 0),) * 60, read_log, ("go 0\n" * 60)[:-1])
        self.both("go 3\n" * 60, (("go", 3),) * 60)
        for text, place in (("go 0\n" * 61, 60), (("go 0\n" * 61)[:-1], 60), ("go 0\n" * 60 + "\n", 60),
                            ("go 0\n" * 60 + "x", 60), ("go 0\n" * 59 + "go 5\ngo 0\n", 59), ("go 0\n" * 4000, 60),
                            ("go 0\n" * 70 + "x", 60)):
            self.raises(BadText(place), read_log, text)

    def test_no_edits(self):
        for line in ("go", "go ", "go 5", "go 9", "go 10", "go 00", "go -1", "go x", "go 0 ", " go 0", "go  0", "Go 0",
                     "GO 0", "undo", "build", "build ", "build 0", "build 0 ", "build 6 plain", "build 0 plain ",
                     "build 0  plain", "build 0 Plain", "build 00 plain", "build 10 plain", "build plain",
                     "build 0 way +0 -0", "build 0 +0 -0", "build 0 door", "build 0 door -e b- 1 0",
                     "build 0 door -s b- 1", "build 0 door -s b- 0 1", "build 0 door -s b- 1 0 ",
                     "build 0 door -s b- 1 1", "build 0 door - 0", "build 0 door -- -- 1 0", "build 0 door s- -b 1 0",
                     "build 0 door -s b- 1 00", "build 0 door -x b- 1 0",
                     "build 0 door " + " ".join(["-sssss", "s-ssss", "ss-sss", "sss-ss", "ssss-s", "sssss-", "12345",
                                                 "02345", "01345", "01245", "01235", "01234"]),
                     "lead", "lead 0", "lead 0 ", "lead 5 +0 -0", "lead 0 +0", "lead 0 +0 -0 ", "lead 0  +0 -0",
                     "lead 0 +0  -0", "lead 0 +0 -1", "lead 0 -0 +0", "lead 0 +6 -6", "lead 0 +0 +0 -0 -0",
                     "lead 0 +0 -0 +1", "lead 0 0 0", "lead 0 way +0 -0", "lead 00 +0 -0", "lead 0 +0,-0",
                     "lead 0 +00 -00", "lead 0" + " +0 -0" * 13, "go 0\r", "leap 0 +0 -0", "0", "plain", "way +0 -0"):
            self.raises(BadText(0), read_log, line)
            self.raises(BadText(2), read_log, "go 0\ngo 1\n" + line + "\ngo 2\n")
            self.raises(BadText(1), read_log, "build 0 plain\n" + line + "\nnothing")
        self.tells((("lead", 0, SHORT * 12),), read_log, "lead 0" + " +0 -0" * 12)

    def test_strange_values(self):
        for value in STRANGE + ((("go", 0),), ["go 0"], ("go 0",)):
            self.agrees(told.read_log, read_log, value)
            if type(value) is not str:
                self.raises(BadText(0), read_log, value)
        self.raises(BadText(0), read_log, "lead 0 " + "+" * 19000)
        self.raises(BadText(0), read_log, "build 0 door " + "-" * 9000 + " " + "1" * 9000)

    def test_drawn_logs(self):
        draw = random.Random(301)
        texts = {}
        for _ in range(300):
            log = drawn_log(draw)
            text = told.log_text(log)
            self.both(text, log)
            self.assertEqual(log, texts.setdefault(text, log))

    def test_one_sign_changed(self):
        draw = random.Random(302)
        right = 0
        for _ in range(60):
            text = told.log_text(drawn_log(draw, 4)) or "go 0\n"
            at = draw.randrange(len(text))
            rows = [text[:k] + text[k + 1:] for k in range(len(text))][:60]
            rows += [text[:k] + text[k] + text[k:] for k in range(len(text))][-60:]
            rows += [text[:at] + sign + text[at:] for sign in SIGNS]
            rows += [text[:at] + sign + text[at + 1:] for sign in SIGNS]
            for row in rows + [text.upper(), text + "\n", text[:-1], text + "go 0"]:
                self.agrees(told.read_log, read_log, row)
                right += outcome(read_log, row)[0] == "tells"
        self.assertGreater(right, 150)


def told_of(function, *args):
    """The state of the office that is told, or the error that is raised."""
    try:
        office = function(*args)
    except WayError as error:
        return ("raises", type(error), shape(vars(error)))
    return state(office)


class OfficeBehind(Case):
    def check(self, house, value):
        ahead = shape((house, value))
        wanted = told_of(told.office_behind, house, value)
        for found in (told_of(office_behind, house, value), told_of(office_behind, rebuilt(house), rebuilt(value))):
            self.assertEqual(wanted, found, (house, value))
        again = told_of(lambda: office_behind(value=value, house=house))
        self.assertEqual(wanted, again)
        self.assertEqual(ahead, shape((house, value)))
        return wanted

    def refused(self, error, house, value):
        self.assertEqual(("raises", type(error), shape(vars(error))), self.check(house, value))

    def test_ordinary(self):
        office = office_behind(CROSSED, (("go", 1), ("go", 1)))
        self.assertIs(Office, type(office))
        self.assertEqual(((), (1,)), office.inside())
        self.check(CROSSED, ())
        self.check(NESTED, (("go", 0),) * 8 + (("lead", 1, BACK), ("build", 0, None), ("build", 1, None), ("go", 1)))
        self.check(LONE, (("go", 0),) * 60)

    def test_no_house_is_told_first(self):
        for value in (None, (), (("go", 0),), [("go", 0)]):
            self.refused(BadHouse("form"), CROSSED[:1], value)
            self.refused(BadHouse("rooms"), ((), (SHORT,)), value)
        for house in STRANGE:
            self.refused(BadHouse(house_error(house)), house, None)

    def test_no_tuples(self):
        for value in (None, [], [("go", 1)], "go 1", {}, 0):
            self.refused(BadLog(0), CROSSED, value)

    def test_no_edits(self):
        for item in (None, (), ("go",), ("go", 0, 0), ["go", 0], ("build", 0), ("build", 0, None, None), ("lead", 0),
                     ("lead", 0, ONCE, 1), ("undo",), ("undo", 0), ("Go", 0), ("twin", 0), ("inside",), (("go",), 0),
                     ("go", 2), ("go", True), ("go", None), ("build", 2, None), ("build", False, None),
                     ("build", 0, EVEN[0]), ("lead", 2, ONCE), ("lead", 0, list(ONCE)), ("lead", 0, ONCE[:2]), "go", 0,
                     {"go": 0}, (None, 0), ("__init__", CROSSED), ("keep", 0), ("go", [0]), ([], {}), ("check", True),
                     ("take", 0)):
            self.refused(BadLog(0), CROSSED, (item,))
            self.refused(BadLog(5), CROSSED, (("go", 0),) * 5 + (item, None, ("go", 9)))
        self.refused(BadLog(1), CROSSED, (("go", 1), ("build", 0, None)))
        self.refused(BadLog(4), CROSSED, (("go", 0), ("go", 1), ("go", 0), ("go", 1), ("go", 0)))
        self.refused(BadLog(60), LONE, (("go", 0),) * 61)
        self.refused(BadLog(60), LONE, (("go", 0),) * 60 + (None,))

    def test_strange_values(self):
        for value in STRANGE:
            self.check(CROSSED, value)
            self.check(CROSSED, (value,))
            for word in ("go", "build", "lead"):
                self.check(CROSSED, ((word, value),))
                self.check(CROSSED, ((word, 0, value),))
        log = (("go", 0), ("go", 0), ("go", 0), ("go", 0), ("go", 0), ("build", 0, EVEN), ("lead", 1, ONCE))
        for path in parts(log):
            if len(path) < 4:
                for value in variants(log, path):
                    self.check(CROSSED, value)

    def test_drawn_offices(self):
        draw = random.Random(303)
        for _ in range(40):
            house = draw.choice((small_house(draw, draw.randint(1, 3)), drawn_house(draw, draw.randint(1, 5), most=8)))
            office = Office(house)
            for _ in range(draw.randint(0, 60)):
                word, *args = drawn_edit(draw, office)
                outcome(getattr(office, word), *args)
            again = office_behind(office.first, office.edits)
            self.assertTrue(again == office)
            self.assertEqual(state(office), state(again))
            self.tells(office.edits, read_log, log_text(office.edits))
            self.check(house, read_log(log_text(office.edits)))
            self.assertEqual(log_text(office.edits), told.log_text(office.edits))
            if len(office.edits) > 2:
                at = draw.randrange(len(office.edits))
                self.check(house, office.edits[:at] + office.edits[at + 1:])
                self.check(house, office.edits + office.edits)

    def test_equal_calls_give_equal_offices_that_stay_apart(self):
        one, other = [office_behind(CROSSED, (("go", 1), ("go", 1))) for _ in range(2)]
        self.assertTrue(one == other)
        one.go(1)
        self.assertFalse(one == other)

    def test_great_logs(self):
        began = time.time()
        house = known("level", 5)
        self.check(house, tuple(("go", k % 5) for k in range(60)))
        self.check(house, (("go", 0),) * 9000)
        self.tells(house, retold.read_house, house_text(house))
        self.assertLess(time.time() - began, 20)
