"""Papers that a house never gets stuck: E4, and what E5 says of them."""

import random
import time
import unittest

from roomways.errors import TooMany
from roomways.knownhouses import known, known_names
from roomways.nevers import never, never_error
from roomways.stalls import stall, stall_error
from roomways.stuckness import is_never_stuck
from tests import retold_rings as rings
from tests import retold_stalls as told
from tests.support import (STRANGE, Case, around, changed, door_by, door_house, drawn_door, drawn_houses, drawn_way,
                           holds_house, parts, small_house, stay, variants)

SHORT = (("in", 0), ("out", 0))
ONCE = (("in", 0), ("in", 1), ("out", 1), ("out", 0))
BACK = (("in", 1), ("in", 0), ("out", 0), ("out", 1))
CROSSED = ((None, None), (ONCE, BACK))
GATED = ((None,) * 3, (around(2, ONCE), around(2, BACK)))
NESTED = ((door_by(("-e", "e-")), door_by(("-s", "b-"))), (ONCE, ONCE))
SHUT = ((None, door_by(("-b", "b-")), door_by(("-s", "s-"))),
        (around(0, (("in", 1), ("out", 1), ("in", 2), ("out", 2))),) * 2)
PAPER = (((((0, 2), (1, 2)), (2, 0, 1)),), ((), (), ()))
# Behind a gate: 390 rings-to-be, and ten or eleven door rings-to-be at the room 0.
WAYS = (stay(0, 1, 10),) * 3 + (stay(0, 1, 9), stay(1, 0, 10))
TEN = ("-sssb", "b-ssb", "bb-sb", "bbb-b", "bsss-")
ELEVEN = ("-sssb", "b-bsb", "bb-sb", "bbb-b", "bsss-")
BEHIND = tuple(around(2, way) for way in WAYS)


def few(house):
    try:
        told.all_rings_to_be(house)
    except TooMany:
        return False
    return True


class Nevers(Case):
    def check(self, house):
        """What is told of a house with few rings; returns whether there is a paper."""
        paper = self.answer(never, house)
        self.assertEqual(is_never_stuck(house), paper is not None, house)
        if paper is not None:
            self.assertIsNone(told.never_error(house, paper), (house, paper))
            self.tells(None, never_error, house, paper)
        return paper is not None

    def test_ordinary(self):
        self.tells(PAPER, never, GATED)
        self.tells(None, never, CROSSED)
        self.tells(((), (((((0, 0), (1, 0)), "time"),), ())), never, NESTED)
        self.tells(((), ((), ((((0, 1), (1, 1)), (0, 0, 1)),), ((((0, 3), (1, 3)), (0, 0, 1)),))), never, SHUT)
        self.tells(((), ((),)), never, ((None,), (SHORT,)))
        self.tells(((), ((), ())), never, known("row", 5))

    def test_known_houses(self):
        for name in known_names():
            for many in (2, 3, 4, 5):
                self.check(known(name, many))

    def test_drawn_houses(self):
        draw = random.Random(71)
        seen = {True: 0, False: 0, "long": 0}
        for number in range(250):
            house = small_house(draw, draw.randint(1, 5))
            gate = len(house[0])
            if number % 2:
                house = (house[0] + (None,), tuple(around(gate, way) for way in house[1]))
            if few(house):
                seen[self.check(house)] += 1
                seen["long"] += sum(map(len, (never(house) or ((), ()))[1])) > 3
        self.assertGreater(min(seen.values()), 20, seen)

    def test_just_as_many_as_may_be(self):
        for rooms in ((None, None, None), (door_by(TEN), None, None)):
            self.assertTrue(self.check((rooms, BEHIND)))
        ten = (door_by(TEN), None, None)
        self.assertEqual((390, 10, 0, 0), (len(never((ten, BEHIND))[0]),) + tuple(map(len, never((ten, BEHIND))[1])))
        ways = tuple(around(2, way) for way in (stay(0, 1, 10),) * 4 + (stay(1, 0, 10),))
        self.assertEqual(400, len(self.answer(never, ((None,) * 3, ways))[0]))
        house = ((None,) + door_house(5, 5, 8)[0], tuple(
            around(0, tuple((word, 1) for word, _ in way)) for way in door_house(5, 5, 8)[1]))
        self.assertEqual(400, len(self.answer(never, house)[1][1]))
        self.tells(None, never_error, house, never(house))

    def test_one_too_many(self):
        eleven = (door_by(ELEVEN), None, None)
        ways = tuple(around(2, way) for way in (stay(0, 1, 10),) * 4 + (stay(1, 0, 10),))
        one = (door_by(("-bsss", "b-sss", "bb-ss", "bbb-s", "bbbb-")), None, None)
        door = ((None,) + door_house(5, 5, 8, True)[0], tuple(
            around(0, tuple((word, 1) for word, _ in way)) for way in door_house(5, 5, 8, True)[1]))
        for house in ((eleven, BEHIND), (one, ways), door):
            doors = sum(len(rings.every_door_to_be(house, room)) for room in range(len(house[0])))
            self.assertEqual(401, len(rings.every_ring_to_be(house)) + doors)
            self.assertTrue(is_never_stuck(house))
            self.raises(TooMany(400), never, house)
            for value in (None, ((), ()), ((), ((), (), ())), PAPER):
                self.raises(TooMany(400), never_error, house, value)

    def test_many_rings_of_houses_that_get_stuck(self):
        for house in (holds_house(41), door_house(5, 5, 8, True), ((door_by(ELEVEN), None), WAYS)):
            self.tells(None, never, house)
            self.raises(TooMany(400), never_error, house, ((), ()))
            self.raises(TooMany(400), never_error, house, None)
        house = ((door_by(TEN), None), WAYS)
        self.tells(None, never, house)
        self.tells(("holds", 0), never_error, house, ((), ((), ())))
        self.tells("form", never_error, house, None)

    def test_greatest_houses(self):
        draw = random.Random(72)
        ahead = time.monotonic()
        for _ in range(20):
            rooms = tuple(drawn_door(draw, 5) for _ in range(5)) + (None,)
            house = (rooms, tuple(around(5, drawn_way(draw, 5, 22)) for _ in range(5)))
            self.assertTrue(is_never_stuck(house))
            if few(house):
                self.check(house)
            else:
                self.raises(TooMany(400), never, house)
                self.raises(TooMany(400), never_error, house, None)
        self.assertLess(time.monotonic() - ahead, 60)


class NeverErrors(Case):
    def test_the_first_of_several(self):
        holds, doors = PAPER
        for value in (None, (), PAPER + ((),), list(PAPER), (list(holds), doors), (holds, list(doors)),
                      (holds, doors[:2]), (holds, doors + ((),)), (holds, ((), (), [])), ((), ((), ())), (holds, None)):
            self.tells("form", never_error, GATED, value)
        self.tells(None, never_error, GATED, PAPER)
        self.tells(("holds", 0), never_error, GATED, ((), ((), (), (None,))))
        self.tells(("holds", 0), never_error, GATED, ((None,), doors))
        self.tells(("holds", 1), never_error, GATED, (holds + (None,), (((),), (), ())))
        ring = holds[0][0]
        for double in ((1, 0, 1), (2, 1, 0), (2, 0, 0), (2, 0, True), (2, 0, 2), (2, 0), "time", (0, 0, 1), [2, 0, 1],
                       (3, 0, 1), (-1, 0, 1), (2, -1, 1), None):
            self.tells(("holds", 0), never_error, GATED, (((ring, double),), doors))
        for other in ((ring[1], ring[0]), ((0, 2), (True, 2)), list(ring), ring + ring, ring[:1], None):
            self.tells(("holds", 0), never_error, GATED, (((other, (2, 0, 1)),), doors))
        self.tells(("doors", 0, 0), never_error, GATED, (holds, ((None,), (None,), ())))
        self.tells(("doors", 2, 0), never_error, GATED, (holds, ((), (), (None,))))

    def test_the_first_at_doors(self):
        paper = never(SHUT)
        self.tells(None, never_error, SHUT, paper)
        self.tells(("doors", 1, 0), never_error, SHUT, ((), ((), (), paper[1][2])))
        self.tells(("doors", 1, 1), never_error, SHUT, ((), ((), paper[1][1] * 2, ())))
        self.tells(("doors", 2, 0), never_error, SHUT, ((), ((), paper[1][1], paper[1][1])))
        for why in ("time", (0, 1, 0), (1, 0, 1), (0, 0, 1, 0), (False, 0, 1)):
            self.tells(("doors", 1, 0), never_error, SHUT, changed(paper, (1, 1, 0, 1), why))
        # The ring at the room 2 stands, and has an order of time.
        self.tells(("doors", 2, 0), never_error, SHUT, changed(paper, (1, 2, 0, 1), "time"))
        self.tells(("doors", 0, 0), never_error, known("proud", 2), ((), (((((0, 0), (1, 0)), "time"),),)))
        self.tells(("doors", 0, 0), never_error, known("meek", 2), ((), ((),)))
        self.tells(None, never_error, NESTED, never(NESTED))
        self.tells(("doors", 0, 0), never_error, NESTED, changed(never(NESTED), (1, 0, 0, 1), (0, 0, 1)))

    def test_either_reason_will_do(self):
        house = ((door_by(("-e", "e-")), None), (around(1, SHORT),) * 2)
        ring = ((0, 1), (1, 1))
        for why in ("time", (1, 0, 1)):
            self.tells(None, never_error, house, ((), (((ring, why),), ())))
        self.tells(("doors", 0, 0), never_error, house, ((), (((ring, "times"),), ())))

    def test_strange_values(self):
        for house in (GATED, NESTED, SHUT, CROSSED):
            for value in STRANGE:
                self.agrees(told.never_error, never_error, house, value)
        for house in (GATED, NESTED, SHUT):
            paper = never(house)
            for path in parts(paper):
                for value in variants(paper, path):
                    self.agrees(told.never_error, never_error, house, value)

    def test_drawn_papers(self):
        draw = random.Random(73)
        seen = {}
        for number in range(150):
            house = small_house(draw, draw.randint(2, 4))
            gate = len(house[0])
            if number % 3:
                house = (house[0] + (None,), tuple(around(gate, way) for way in house[1]))
            if not few(house):
                continue
            paper = never(house) or ((), ((),) * len(house[0]))
            path = draw.choice(parts(paper))
            for value in [paper] + [value for value in variants(paper, path) if draw.random() < 0.2]:
                self.agrees(told.never_error, never_error, house, value)
                error = never_error(house, value)
                kind = error if type(error) is not tuple else error[0]
                seen[kind] = seen.get(kind, 0) + 1
        self.assertGreater(min(seen.get(kind, 0) for kind in (None, "form", "holds", "doors")), 20, seen)


class WhatHolds(Case):
    def test_exactly_one(self):
        draw = random.Random(74)
        for house in [small_house(draw, draw.randint(1, 5)) for _ in range(150)] + drawn_houses(74, 40, most=8):
            if few(house):
                paper, made = never(house), stall(house)
                self.assertEqual(1, (paper is None) + (made is None))
                if paper is None:
                    self.assertIsNone(stall_error(house, made))
                    self.assertIsNotNone(never_error(house, ((), ((),) * len(house[0]))))
                else:
                    self.assertIsNone(never_error(house, paper))

    def test_stays_whatever_is_asked_between(self):
        asked = [GATED, NESTED, SHUT, CROSSED, known("handed", 4), known("gated", 5)]
        ahead = [never(house) for house in asked]
        again = [never(house) for house in reversed(asked)]
        self.assertEqual(ahead, again[::-1])


if __name__ == "__main__":
    unittest.main()
