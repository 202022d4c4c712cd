"""Verdicts: M1, and what M2 and the whole document say of them."""

import random
import time

from roomways.errors import TooMany
from roomways.gates import fewest_gate, gated
from roomways.knownhouses import known, known_names
from roomways.looks import stuck_by_all
from roomways.nevers import never, never_error
from roomways.stalls import stall, stall_error
from roomways.stuckness import is_never_stuck, stuck_ring
from roomways.verdicts import verdict, verdict_error
from tests import retold_stalls as told
from tests.support import (STRANGE, Case, around, door_by, door_house, drawn_house, drawn_houses, drawn_names,
                           holds_house, outcome, parts, renamed, shape, small_house, staying_house, variants)
from tests.test_alls import drawn

SHORT = (("in", 0), ("out", 0))
ONCE = (("in", 0), ("in", 1), ("out", 1), ("out", 0))
BACK = (("in", 1), ("in", 0), ("out", 0), ("out", 1))
CROSSED = ((None, None), (ONCE, BACK))
GATE = known("gated", 2)
MEEK, PROUD, RANKED = known("meek", 2), known("proud", 2), known("ranked", 2)


def led(house):
    """The house, each of whose ways is led around by one more room at its beginning, the other rooms one greater."""
    ways = tuple(around(0, tuple((word, room + 1) for word, room in way)) for way in house[1])
    return ((None,) + house[0], ways)


def told_error(house, value):
    """What verdict_error tells, told once more."""
    if type(value) is not tuple or len(value) != 2 or type(value[0]) is not str or value[0] not in ("stuck", "never"):
        return "form"
    error = told.stall_error(house, value[1]) if value[0] == "stuck" else told.never_error(house, value[1])
    return None if error is None else ({"stuck": "stall", "never": "paper"}[value[0]], error)


class Verdicts(Case):
    def check(self, house):
        word, shown = self.answer(verdict, house)
        self.assertEqual(is_never_stuck(house), word == "never")
        self.tells(None, verdict_error, house, (word, shown))
        self.assertIsNone(told_error(house, (word, shown)))
        other = "never" if word == "stuck" else "stuck"
        for value in (shown, ((), ()), ((), ((),) * len(house[0]))):
            self.assertNotEqual(("tells", shape(None)), outcome(verdict_error, house, (other, value)))
        self.assertEqual(word == "stuck", stall(house) is not None)
        self.assertEqual(word == "never", never(house) is not None)
        return word

    def test_known_houses(self):
        for name in known_names():
            for many in (2, 3, 4, 5):
                wanted = "stuck"
                if name in ("row", "handed", "gated", "ranked") or (name, many) == ("level", 2):
                    wanted = "never"
                self.assertEqual(wanted, self.check(known(name, many)), (name, many))
        self.tells(("never", ((), ((),))), verdict, RANKED)
        self.assertEqual("stuck", self.check(CROSSED))
        self.assertEqual("never", self.check(((None,), (SHORT,))))

    def test_all_say_the_same(self):
        seen = []
        for house, through in drawn(321, 80):
            if not told_many(house):
                seen.append(self.check(house))
                stuck = seen[-1] == "stuck"
                self.assertEqual(stuck, through.can_get_stuck())
                self.tells(stuck, stuck_by_all, house)
                self.assertEqual(stuck, stuck_ring(house) is not None)
                for other in (stall(house), never(house), ((), ())):
                    if stuck:
                        self.assertNotEqual(("tells", shape(None)), outcome(never_error, house, other))
                    else:
                        self.assertNotEqual(("tells", shape(None)), outcome(stall_error, house, other))
        self.assertGreater(min(seen.count("stuck"), seen.count("never")), 15)

    def test_gates(self):
        draw = random.Random(322)
        for _ in range(40):
            house = small_house(draw, draw.randint(2, 4))
            if not told_many(house):
                free = gated(house, fewest_gate(house))
                if not told_many(free):
                    self.assertEqual("never", self.check(free))

    def test_too_many(self):
        many = led(((door_by(("-ssss", "s-sss", "ss-ss", "sss-s", "ssss-")),), (SHORT * 3,) * 5))
        self.raises(TooMany(400), verdict, many)
        self.raises(TooMany(400), never, many)
        self.raises(TooMany(400), verdict_error, many, ("never", ((), ((), ()))))
        self.raises(TooMany(400), verdict_error, many, ("never", None))
        self.tells(("stall", "form"), verdict_error, many, ("stuck", None))
        self.tells("form", verdict_error, many, ("Never", None))
        # Who can get stuck has a verdict, however many rings there are; and a paper is still refused.
        stuck = holds_house(41)
        self.assertEqual("stuck", self.answer(verdict, stuck)[0])
        self.tells(None, verdict_error, stuck, verdict(stuck))
        self.raises(TooMany(400), verdict_error, stuck, ("never", ((), ((), ()))))

    def test_rooms_called_otherwise(self):
        draw = random.Random(323)
        for house in [small_house(draw) for _ in range(40)]:
            other = renamed(house, drawn_names(draw, house))
            if not told_many(house):
                self.assertEqual(self.check(house), self.check(other))
                if verdict(house)[0] == "stuck" and not any(house[0]):
                    self.tells(None, verdict_error, other, verdict(house))

    def test_great_houses(self):
        draw = random.Random(324)
        worst = 0
        houses = drawn_houses(325, 30) + [drawn_house(draw, hands=5, many=6) for _ in range(20)]
        houses += [staying_house(draw, 5, 6) for _ in range(10)] + [holds_house(100), door_house(11, 11, 12)]
        for house in houses:
            began = time.time()
            found = outcome(verdict, house)
            if found[0] == "tells":
                outcome(verdict_error, house, verdict(house))
            worst = max(worst, time.time() - began)
        self.assertLess(worst, 10)


def told_many(house):
    try:
        told.never_error(house, None)
    except TooMany:
        return True
    return False


class VerdictErrors(Case):
    def check(self, house, value):
        self.agrees(told_error, verdict_error, house, value)

    def test_each_word(self):
        jam, paper = ((0, 1, 0, 1), ()), never(GATE)
        for house, value, wanted in (
                (CROSSED, ("stuck", jam), None), (GATE, ("never", paper), None), (CROSSED, jam, "form"),
                (GATE, paper, "form"), (CROSSED, ["stuck", jam], "form"), (CROSSED, ("stuck",), "form"),
                (CROSSED, ("stuck", jam, None), "form"), (CROSSED, ("Stuck", jam), "form"),
                (CROSSED, (True, jam), "form"), (CROSSED, ("", jam), "form"), (CROSSED, (["stuck"], jam), "form"),
                (CROSSED, ("stall", jam), "form"), (GATE, ("paper", paper), "form"),
                (CROSSED, ("stuck", None), ("stall", "form")), (CROSSED, ("stuck", ((), ())), ("stall", "rest")),
                (CROSSED, ("stuck", (jam[0] + (0,), ())), ("stall", ("run", 4))),
                (CROSSED, ("stuck", (jam[0][:3], ())), ("stall", ("hand", 0))),
                (CROSSED, ("stuck", (jam[0], (0,))), ("stall", ("round", 0))),
                (MEEK, ("stuck", ((0, 0, 1, 1), (0, 1, 0))), ("stall", "back")),
                (MEEK, ("stuck", ((0, 0, 0), (0,))), ("stall", ("word", 0))),
                (CROSSED, ("never", ((), ((), ()))), ("paper", ("holds", 0))),
                (CROSSED, ("never", jam), ("paper", "form")),
                (PROUD, ("never", ((), ((),))), ("paper", ("doors", 0, 0))),
                (GATE, ("never", None), ("paper", "form")), (GATE, ("never", (paper[0] * 2, paper[1])),
                                                             ("paper", ("holds", 1))),
                                                             (RANKED, ("never", ((), ((None,),))),
                                                              ("paper", ("doors", 0, 0))),
                                                              (RANKED, ("never", ((), ((),))), None)):
            self.tells(wanted, verdict_error, house, value)
            self.assertEqual(wanted, told_error(house, value))

    def test_strange_values(self):
        for house in (CROSSED, GATE, MEEK, RANKED):
            for value in STRANGE:
                self.check(house, value)
                self.check(house, (value, value))
                for word in ("stuck", "never"):
                    self.check(house, (word, value))
                    self.check(house, (word, ((), value)))
                    self.check(house, (word, (value, ())))
                    self.check(house, (value, word))

    def test_parts_changed(self):
        for house in (CROSSED, GATE, MEEK, known("level", 2)):
            value = verdict(house)
            for path in parts(value):
                for other in variants(value, path):
                    self.check(house, other)

    def test_verdicts_of_other_houses(self):
        draw = random.Random(326)
        houses = [small_house(draw, 2, 2) for _ in range(14)]
        houses = [house for house in houses if not told_many(house)]
        for house in houses:
            for other in houses:
                self.check(house, verdict(other))
