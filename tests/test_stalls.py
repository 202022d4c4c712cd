"""Stalls: E3, and what E5 says of them."""

import random
import time
import unittest

from roomways.doors import bow_rings
from roomways.knownhouses import known, known_names
from roomways.runs import behind, words
from roomways.standings import start
from roomways.stalls import stall, stall_error
from roomways.stuckness import stuck_ring
from tests import retold_stalls as told
from tests.support import (STRANGE, Case, door_by, door_house, drawn_door, drawn_house, drawn_houses, drawn_order,
                           drawn_run, drawn_way, holds_house, parts, small_house, stay, staying_house, variants)

SHORT = (("in", 0), ("out", 0))
ONCE = (("in", 0), ("in", 1), ("out", 1), ("out", 0))
BACK = (("in", 1), ("in", 0), ("out", 0), ("out", 1))
CROSSED = ((None, None), (ONCE, BACK))
MEEK, PROUD, ROW = known("meek", 2), known("proud", 2), known("row", 2)
JAM = ((0, 1, 0, 1), ())
BOWS = ((0, 0, 1, 1), (0, 1, 0, 1, 0, 1, 0, 1))


class Stalls(Case):
    def check(self, house):
        """What is told of a house; returns the kind of its stall."""
        ring = stuck_ring(house)
        made = self.answer(stall, house)
        self.assertEqual(ring is None, made is None, house)
        if ring is None:
            return None
        self.assertIsNone(told.stall_error(house, made), (house, made))
        self.tells(None, stall_error, house, made)
        if ring[0] == "hold":
            return ("hold", len(ring[1]))
        hands = tuple(hand for hand, _ in ring[2])
        return ("bow" if hands in bow_rings(house, ring[1]) else "wait", len(hands))

    def test_known_houses(self):
        for name in known_names():
            for many in (2, 3, 4, 5):
                self.check(known(name, many))
        self.assertEqual(("hold", 5), self.check(known("table", 5)))
        self.assertEqual(("bow", 2), self.check(known("meek", 5)))
        self.assertEqual(("wait", 2), self.check(known("proud", 5)))
        self.assertEqual(("wait", 3), self.check(known("level", 5)))

    def test_one_hand(self):
        self.tells(None, stall, ((None,), (SHORT,)))
        self.tells(None, stall, ((((("-",),), ((),)),), (SHORT,)))

    def test_bow_rings_of_several(self):
        self.assertEqual(("bow", 3), self.check(((door_by(("-bs", "s-b", "bs-")),), (SHORT,) * 3)))
        self.assertEqual(("bow", 3), self.check(((door_by(("-bs", "s-b", "bs-")),), (SHORT * 4,) * 3)))
        draw = random.Random(60)
        table = door_by(("-bes", "s-be", "es-b", "bes-"))[0]
        four = ((table, ((1, 3, 2), (2, 3, 0), (3, 1, 0), (0, 2, 1))),)
        self.assertEqual(("bow", 4), self.check((four, (SHORT,) * 4)))
        self.assertEqual(("bow", 4), self.check((four, (SHORT * 4,) * 4)))
        five = door_by(("-bese", "s-bee", "es-be", "bes-e", "eeee-"))[0]
        orders = ((4, 1, 3, 2), (2, 4, 3, 0), (3, 1, 4, 0), (0, 2, 1, 4), (0, 1, 2, 3))
        self.check((((five, orders), None), (SHORT,) * 4 + ((("in", 1), ("out", 1)),)))
        for many in (4, 5):
            rows = ["".join("-" if i == j else "b" if j == (i + 1) % many else "s" if i == (j + 1) % many else "e"
                            for j in range(many)) for i in range(many)]
            for _ in range(60):
                door = (door_by(rows)[0], tuple(drawn_order(draw, many, hand) for hand in range(many)))
                self.check(((door,), (SHORT,) * many))

    def test_rings_of_holds_at_doors_of_all_words(self):
        draw = random.Random(61)
        for many in (2, 3, 4, 5):
            for _ in range(30):
                house = (tuple(drawn_door(draw, many) for _ in range(many)), known("table", many)[1])
                self.check(house)

    def test_hands_that_rest_have_even_ones(self):
        # Beside the two that wait for one another others are even with them, and are passed and handed over to.
        door = door_by(("-esee", "e-ebe", "se-ee", "ese-e", "eeee-"))
        elsewhere = (("in", 1), ("out", 1))
        for users in ((0, 2), (0, 2, 4), (1, 3), (1, 2, 4), (0, 1, 2, 3, 4)):
            house = ((door, None), tuple(SHORT if hand in users else elsewhere for hand in range(5)))
            self.check(house)

    def test_drawn_houses(self):
        draw = random.Random(62)
        seen = {}
        houses = [small_house(draw, draw.randint(2, 5), steps=(2, 4)) for _ in range(500)]
        houses += drawn_houses(62, 60) + [staying_house(draw, 5, 6) for _ in range(30)]
        houses += [((drawn_door(draw, hands),), (SHORT,) * hands) for hands in (3, 4, 5) * 60]
        for house in houses:
            kind = self.check(house)
            seen[kind] = seen.get(kind, 0) + 1
        for kind in (None, ("hold", 2), ("bow", 2), ("wait", 2), ("wait", 3)):
            self.assertGreater(seen.get(kind, 0), 3, seen)

    def test_greatest_houses(self):
        draw = random.Random(63)
        ahead = time.monotonic()
        for _ in range(20):
            rooms = tuple(drawn_door(draw, 5) for _ in range(6))
            self.check((rooms, tuple(drawn_way(draw, 6) for _ in range(5))))
            self.check((rooms, holds_house(44)[1]))
        self.check(door_house(12, 12, 12, True))
        self.assertLess(time.monotonic() - ahead, 30)


class StallErrors(Case):
    def test_the_first_of_several(self):
        self.tells(None, stall_error, CROSSED, JAM)
        self.tells(None, stall_error, PROUD, ((0, 0, 1, 1), ()))
        self.tells(None, stall_error, MEEK, BOWS)
        self.tells("form", stall_error, CROSSED, None)
        self.tells("form", stall_error, CROSSED, JAM + ((),))
        self.tells("form", stall_error, CROSSED, (JAM[0], (2,)))
        self.tells("form", stall_error, CROSSED, ((0, 1, 0, True), ()))
        self.tells("form", stall_error, CROSSED, ([0, 1, 0, 1], ()))
        self.tells("form", stall_error, CROSSED, (JAM[0], []))
        self.tells(("run", 4), stall_error, CROSSED, ((0, 1, 0, 1, 0, 0), (0,)))
        self.tells(("run", 3), stall_error, ROW, ((0, 1, 0, 1, 0), (0,)))
        self.tells("rest", stall_error, CROSSED, ((), ()))
        self.tells("rest", stall_error, CROSSED, ((0,) * 5, (0, 0)))
        self.tells(("round", 0), stall_error, CROSSED, (JAM[0], (0,)))
        self.tells(("round", 1), stall_error, CROSSED, (JAM[0][:3], (1, 1)))
        self.tells(("round", 2), stall_error, MEEK, (BOWS[0], (0, 0, 0)))
        self.tells(("word", 0), stall_error, MEEK, ((0, 0, 0), (0,)))
        self.tells(("word", 0), stall_error, MEEK, ((0,), (1, 0)))
        self.tells(("word", 2), stall_error, MEEK, (BOWS[0], (0, 0, 1)))
        self.tells("back", stall_error, MEEK, ((0,), (0,)))
        self.tells("back", stall_error, MEEK, (BOWS[0], BOWS[1][:-1]))
        self.tells(("hand", 0), stall_error, MEEK, (BOWS[0], ()))
        self.tells(("hand", 0), stall_error, CROSSED, (JAM[0][:3], ()))
        self.tells(("hand", 0), stall_error, ROW, ((0, 0, 1), ()))

    def test_the_first_idle_hand_is_told(self):
        three = ((door_by(("-bb", "b-b", "bb-")),), (SHORT,) * 3)
        run = (0, 0, 1, 1)
        self.assertEqual(("yield", "yield", "lower", "lower", "see", "see", "raise", "raise"),
                         words(three, behind(three, start(three), run), (0, 1) * 4))
        self.tells(None, stall_error, three, (run, (0, 1) * 4))
        self.tells(("hand", 2), stall_error, three, (run + (2,), (0, 1) * 4))
        self.tells(("hand", 0), stall_error, three, (run + (2,), ()))
        self.tells(None, stall_error, three, (run + (2, 2, 2, 2), (0, 1) * 4))

    def test_longest_runs(self):
        loop = (0,) * 4
        self.assertEqual(("begin", "raise", "enter", "leave"), words(PROUD, start(PROUD), loop))
        run = loop * 999 + (0, 0, 1, 1)
        self.assertEqual(4000, len(run))
        self.tells(None, stall_error, PROUD, (run, ()))
        self.tells("form", stall_error, PROUD, ((0,) + run, ()))
        self.tells("form", stall_error, PROUD, (loop + run, ()))
        self.tells(None, stall_error, MEEK, (BOWS[0], BOWS[1] * 500))
        self.tells("form", stall_error, MEEK, (BOWS[0], BOWS[1] * 500 + (0,)))
        self.tells("back", stall_error, MEEK, (BOWS[0], (BOWS[1] * 500)[:-1]))

    def test_strange_values(self):
        for house in (CROSSED, MEEK):
            for value in STRANGE:
                self.agrees(told.stall_error, stall_error, house, value)
        for house, right in ((CROSSED, JAM), (MEEK, BOWS)):
            for path in parts(right):
                for value in variants(right, path):
                    self.agrees(told.stall_error, stall_error, house, value)

    def test_drawn_values(self):
        draw = random.Random(64)
        seen = {}
        for _ in range(400):
            house = small_house(draw, draw.randint(2, 3), steps=(2, 4))
            right = stall(house)
            if right is not None and draw.random() < 0.5:
                path = draw.choice(parts(right))
                values = [right] + [value for value in variants(right, path) if draw.random() < 0.1]
            else:
                run = drawn_run(draw, house, start(house), draw.randint(0, 9))
                steps = tuple(draw.randrange(len(house[1])) for _ in range(draw.choice((0, 0, 1, 3, 8))))
                values = [(run, steps), (run[1:], steps)]
            for value in values:
                self.agrees(told.stall_error, stall_error, house, value)
                error = stall_error(house, value)
                kind = error if type(error) is not tuple else error[0]
                seen[kind] = seen.get(kind, 0) + 1
        for kind in (None, "form", "run", "rest", "round", "word", "back", "hand"):
            self.assertGreater(seen.get(kind, 0), 3, seen)

    def test_stays_whatever_is_asked_between(self):
        draw = random.Random(65)
        asked = [drawn_house(draw, most=8) for _ in range(40)]
        ahead = [stall(house) for house in asked]
        again = [stall(house) for house in reversed(asked)]
        self.assertEqual(ahead, again[::-1])
        self.assertEqual(stall(((None, None), (stay(0, 1, 2), BACK))), stall(((None, None), (stay(0, 1, 2), BACK))))


if __name__ == "__main__":
    unittest.main()
