"""Gates: H1 to H4, and what H7 says of them."""

import itertools
import random
import time
import unittest

from roomways.doors import door_rings, doors_to_be
from roomways.errors import TooMany, Unfit
from roomways.gates import fewest_gate, gate_error, gate_paper, gated
from roomways.holds import hold_rings, rings_to_be
from roomways.houses import house_error
from roomways.knownhouses import known, known_names
from roomways.stuckness import is_never_stuck
from tests import retold_rings as rings
from tests import retold_stalls as told
from tests.support import (STRANGE, Case, around, door_by, door_house, drawn_door, drawn_houses, drawn_way, holds_house,
                           parts, small_house, stay, variants)

SHORT = (("in", 0), ("out", 0))
ONCE = (("in", 0), ("in", 1), ("out", 1), ("out", 0))
BACK = (("in", 1), ("in", 0), ("out", 0), ("out", 1))
CROSSED = ((None, None), (ONCE, BACK))
BOTH_WAYS = ((None, None), (ONCE, ONCE, BACK, BACK))
ONE, OTHER, LAST = ("hold", ((0, 1), (2, 1))), ("hold", ((1, 1), (3, 1))), ("hold", ((0, 1), (3, 1)))
MEEK = known("meek", 3)


def few(house):
    try:
        told.all_rings(house)
    except TooMany:
        return False
    return True


def drawn(seed, many):
    draw = random.Random(seed)
    houses = [small_house(draw, draw.randint(1, 5)) for _ in range(many)] + drawn_houses(seed, many // 3, most=6)
    return [house for house in houses if few(house)]


def all_hands(house):
    hands = range(len(house[1]))
    return [row for many in range(len(house[1]) + 1) for row in itertools.combinations(hands, many)]


class Gated(Case):
    def test_ordinary(self):
        self.tells(known("gated", 2), gated, CROSSED, (0, 1))
        self.tells(((None,) * 3, (ONCE, BACK)), gated, CROSSED, ())
        self.tells(((None,) * 3, (ONCE, around(2, BACK))), gated, CROSSED, (1,))
        for many in (2, 3, 4, 5):
            self.tells(known("gated", many), gated, known("table", many), tuple(range(many)))
        self.tells((MEEK[0] + (None,), (SHORT, around(1, SHORT), SHORT)), gated, MEEK, (1,))

    def test_six_rooms(self):
        for hands in ((), (0,), (0, 1)):
            self.raises(Unfit(), gated, ((None,) * 6, (ONCE, BACK)), hands)
            self.assertEqual(6, len(self.answer(gated, ((None,) * 5, (ONCE, BACK)), hands)[0]))

    def test_long_ways(self):
        ways = (SHORT * 11, stay(0, 1, 10) + (("in", 1), ("out", 1)), SHORT * 12)
        self.assertEqual([22, 24, 24], [len(way) for way in ways])
        house = ((None,) * 3, ways)
        for hands in ((), (0,)):
            self.assertIsNone(house_error(self.answer(gated, house, hands)))
        self.assertEqual(24, len(gated(house, (0,))[1][0]))
        for hands in ((1,), (2,), (0, 2), (0, 1, 2), (0, 1)):
            self.raises(Unfit(), gated, house, hands)
        odd = ((None,) * 3, (stay(0, 1, 10) + SHORT[:0], SHORT))
        self.assertEqual(22, len(odd[1][0]))
        self.agrees(told.gated, gated, odd, (0, 1))

    def test_drawn_houses(self):
        for house in drawn(111, 80) + drawn_houses(112, 60):
            for hands in all_hands(house):
                self.agrees(told.gated, gated, house, hands)


class FewestGates(Case):
    def check(self, house):
        self.agrees(told.fewest_gate, fewest_gate, house)
        paper = self.answer(gate_paper, house)
        self.assertIsNone(told.gate_error(house, paper), (house, paper))
        self.tells(None, gate_error, house, paper)
        return fewest_gate(house)

    def test_ordinary(self):
        row, table = known("row", 2), known("table", 3)
        three = ((None, None), (ONCE, ONCE, BACK))
        for house, wanted in ((CROSSED, (0, 1)), (row, ()), (table, (0, 1)), (BOTH_WAYS, (0, 1, 2, 3)),
                              (three, (0, 1, 2)), (MEEK, (0, 1, 2)), (known("level", 4), (0, 1, 2)), (((None,), (SHORT,)), ())):
            self.tells(wanted, fewest_gate, house)
            self.check(house)
        self.tells((), gate_paper, row)
        self.tells((("hold", ((0, 1), (1, 1))),), gate_paper, CROSSED)

    def test_known_houses(self):
        for name in known_names():
            for many in (2, 3, 4, 5):
                self.check(known(name, many))

    def test_the_least_of_the_fewest(self):
        way = (("in", 1), ("in", 2), ("out", 2), ("out", 1))
        back = (("in", 2), ("in", 1), ("out", 1), ("out", 2))
        house = ((None,) * 3, (SHORT, way, SHORT, back))
        self.tells((1, 3), fewest_gate, house)
        house = ((None,) * 5, (SHORT,) + tuple(
            (("in", k + 1), ("in", (k + 1) % 4 + 1), ("out", (k + 1) % 4 + 1), ("out", k + 1)) for k in range(4)))
        self.tells((1, 2), fewest_gate, house)

    def test_holds_and_doors(self):
        door = door_by(("-sss", "b-sb", "bb-s", "bbb-"))
        house = ((None, None, door), (ONCE + (("in", 2), ("out", 2)), BACK + (("in", 2), ("out", 2)), SHORT,
                                      (("in", 2), ("out", 2))))
        self.tells((0, 1, 3), fewest_gate, house)
        self.check(house)

    def test_drawn_houses(self):
        seen = {}
        for house in drawn(113, 250):
            many = len(self.check(house))
            seen[many] = seen.get(many, 0) + 1
        self.assertGreater(min(seen.get(many, 0) for many in (0, 2, 3, 4)), 5, seen)

    def test_just_as_many_as_may_be(self):
        self.assertEqual(400, len(rings_to_be(holds_house(40))))
        self.assertEqual(400, len(doors_to_be(door_house(5, 5, 8), 0)))
        self.tells((0, 1, 2, 3, 4), fewest_gate, holds_house(40))
        self.check(door_house(5, 5, 8))
        ways = tuple(around(2, way) for way in (stay(0, 1, 10),) * 4 + (stay(1, 0, 10),))
        self.tells((), fewest_gate, ((None,) * 3, ways))
        self.tells((), gate_paper, ((None,) * 3, ways))
        self.tells(None, gate_error, ((None,) * 3, ways), ())

    def test_each_alone_may_be_as_many(self):
        # 400 rings-to-be, and one door ring-to-be: none of both alone is too many.
        one = door_by(("-bsss", "b-sss", "bb-ss", "bbb-s", "bbbb-"))
        ways = tuple(around(2, way) for way in (stay(0, 1, 10),) * 4 + (stay(1, 0, 10),))
        self.tells((), fewest_gate, ((one, None, None), ways))
        self.tells(None, gate_error, ((one, None, None), ways), ())
        self.tells((0, 1, 2, 3, 4), fewest_gate, ((one, None), holds_house(40)[1]))
        self.check(((one, None), holds_house(40)[1]))

    def test_one_too_many(self):
        holds = ((None,) * 4, (stay(0, 1, 11), stay(0, 1, 11), stay(0, 1, 9) + around(2, stay(3, 2, 0)),
                               stay(0, 1, 9) + around(3, stay(2, 3, 0)), stay(1, 0, 10)))
        self.assertEqual(401, len(rings.every_ring_to_be(holds)))
        never = tuple(around(2, way) for way in (stay(0, 1, 10),) * 3 + (stay(1, 0, 10),) * 2)
        door = door_house(5, 5, 8, True)
        apart = ((None,) + door[0], tuple(around(0, tuple((word, 1) for word, _ in way)) for way in door[1]))
        self.assertEqual(401, len(rings.every_door_to_be(apart, 1)))
        for house in (holds, door, ((None,) * 3, never), apart):
            self.raises(TooMany(400), fewest_gate, house)
            self.raises(TooMany(400), gate_paper, house)
            for value in ((), None, (ONE,)):
                self.raises(TooMany(400), gate_error, house, value)
        self.assertTrue(is_never_stuck(apart))

    def test_greatest_houses(self):
        draw = random.Random(114)
        ahead = time.monotonic()
        for number in range(20):
            rooms = tuple(drawn_door(draw, 5) if number % 2 else None for _ in range(6))
            house = (rooms, tuple(drawn_way(draw, 6, 10 + number) for _ in range(5)))
            self.ask(fewest_gate, house)
            if self.ask(gate_paper, house)[0] == "tells":
                self.tells(None, gate_error, house, gate_paper(house))
            self.ask(gated, (rooms[1:], tuple(drawn_way(draw, 5) for _ in range(5))), (0, 1, 2, 3, 4))
        self.assertLess(time.monotonic() - ahead, 60)


class GateErrors(Case):
    def test_the_first_of_several(self):
        self.tells(None, gate_error, BOTH_WAYS, (ONE, OTHER))
        self.tells(None, gate_error, BOTH_WAYS, (ONE, OTHER, LAST))
        self.tells(None, gate_error, BOTH_WAYS, (OTHER, ONE, ONE))
        self.tells("form", gate_error, BOTH_WAYS, None)
        self.tells("form", gate_error, BOTH_WAYS, [ONE, OTHER])
        self.tells(("ring", 1), gate_error, BOTH_WAYS, (ONE, ONE[1], None))
        self.tells(("ring", 0), gate_error, BOTH_WAYS, (("hold", ((2, 1), (0, 1))), OTHER))
        self.tells(("ring", 0), gate_error, BOTH_WAYS, (("hold", ((0, True), (2, 1))), OTHER))
        self.tells(("ring", 1), gate_error, BOTH_WAYS, (ONE, ("hold", [(0, 1), (2, 1)])))
        self.tells(("ring", 1), gate_error, BOTH_WAYS, (ONE, list(OTHER)))
        self.tells(("ring", 2), gate_error, BOTH_WAYS, (ONE, OTHER, ("door", 0, ONE[1])))
        self.tells(("ring", 0), gate_error, BOTH_WAYS, (("holds", ONE[1]),))
        self.tells(("hands", ()), gate_error, BOTH_WAYS, ())
        self.tells(("hands", (0, 2)), gate_error, BOTH_WAYS, (ONE,))
        self.tells(("hands", (0, 2, 3)), gate_error, BOTH_WAYS, (ONE, LAST))
        self.tells(("hands", (0, 1, 3)), gate_error, BOTH_WAYS, (OTHER, LAST))
        self.tells(("ring", 0), gate_error, known("row", 2), (("hold", ((0, 1), (1, 1))),))
        self.tells(None, gate_error, known("row", 2), ())

    def test_door_rings(self):
        rings_of = [("door", 0, ((one, 0), (other, 0))) for one, other in ((0, 1), (0, 2), (1, 2))]
        self.tells(None, gate_error, MEEK, tuple(rings_of))
        self.tells(("hands", (0, 2)), gate_error, MEEK, (rings_of[1],))
        self.tells(("hands", (0, 1)), gate_error, MEEK, (rings_of[0],))
        for wrong in (("door", 1, rings_of[0][2]), ("door", False, rings_of[0][2]), ("door", 0, ((0, 0), (1, False))),
                      ("hold", rings_of[0][2]), ("door", 0, ()), ("door", 0, None), ("door", 0, ((0, 0),)),
                      ("door", -1, rings_of[0][2]), ("door", 0, ((0, 0, 0), (1, 0))), ("door", [0], rings_of[0][2]),
                      None):
            self.tells(("ring", 3), gate_error, MEEK, tuple(rings_of) + (wrong,))

    def test_a_long_one(self):
        self.tells(None, gate_error, BOTH_WAYS, (ONE, OTHER) * 500)
        self.tells(("ring", 1000), gate_error, BOTH_WAYS, (ONE, OTHER) * 500 + ((),))
        paper = tuple(("hold", ring) for ring in hold_rings(holds_house(40)))
        self.tells(None, gate_error, holds_house(40), paper)

    def test_strange_values(self):
        for house in (BOTH_WAYS, MEEK, known("row", 2)):
            for value in STRANGE:
                self.agrees(told.gate_error, gate_error, house, value)
        for house in (BOTH_WAYS, MEEK):
            paper = gate_paper(house)
            for path in parts(paper):
                for value in variants(paper, path):
                    self.agrees(told.gate_error, gate_error, house, value)

    def test_drawn_papers(self):
        draw = random.Random(115)
        seen = {}
        for house in drawn(115, 250):
            whole = told.all_rings(house)
            for _ in range(3):
                value = tuple(draw.sample(whole, draw.randint(0, min(3, len(whole)))))
                self.agrees(told.gate_error, gate_error, house, value)
                error = gate_error(house, value)
                kind = error if type(error) is not tuple else (error[0], len(error[1]))
                seen[kind] = seen.get(kind, 0) + 1
        self.assertGreater(min(seen.get(kind, 0) for kind in (None, ("hands", 0), ("hands", 2))), 10, seen)


class WhatHolds(Case):
    def test_never_stuck_exactly_if_each_ring_has_two(self):
        seen = {True: 0, False: 0}
        for house in drawn(116, 150):
            whole = told.all_rings(house)
            for hands in all_hands(house):
                try:
                    other = gated(house, hands)
                except Unfit:
                    continue
                enough = all(len(set(hands) & set(dict(ring[-1]))) > 1 for ring in whole)
                self.assertEqual(enough, is_never_stuck(other), (house, hands))
                seen[enough] += bool(whole)
        self.assertGreater(min(seen.values()), 50, seen)

    def test_the_fewest_are_enough_and_no_fewer(self):
        for house in drawn(117, 80):
            if len(house[0]) < 6 and max(map(len, house[1])) < 23:
                fewest = fewest_gate(house)
                free = [hands for hands in all_hands(house) if is_never_stuck(gated(house, hands))]
                self.assertEqual(fewest, free[0])
                self.assertIn(tuple(range(len(house[1]))), free)
                self.assertEqual(is_never_stuck(house), is_never_stuck(gated(house, ())))
                self.assertEqual(is_never_stuck(house), is_never_stuck(gated(house, (0,))))

    def test_rings_of_the_paper_are_rings(self):
        for house in drawn(118, 80):
            for ring in gate_paper(house):
                if ring[0] == "hold":
                    self.assertIn(ring[1], hold_rings(house))
                else:
                    self.assertIn(ring[2], door_rings(house, ring[1]))

    def test_stays_whatever_is_asked_between(self):
        asked = drawn(119, 40)
        ahead = [(fewest_gate(house), gate_paper(house)) for house in asked]
        again = [(fewest_gate(house), gate_paper(house)) for house in reversed(asked)]
        self.assertEqual(ahead, again[::-1])


if __name__ == "__main__":
    unittest.main()
