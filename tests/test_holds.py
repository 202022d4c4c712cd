"""Rings of holds: D2, and what C6 and D6 say of them."""

import random
import unittest

from roomways.errors import TooMany
from roomways.holds import hold_rings, rings_to_be
from roomways.knownhouses import known, known_names
from roomways.together import apart, comes_together
from tests import retold_rings as told
from tests.support import (Case, around, drawn_houses, drawn_names, holds_house, renamed, small_house, stay,
                           staying_house)

SHORT = (("in", 0), ("out", 0))
ONCE = (("in", 0), ("in", 1), ("out", 1), ("out", 0))
BACK = (("in", 1), ("in", 0), ("out", 0), ("out", 1))


def drawn(seed, many):
    """Drawn houses with short ways, and with ways that hold one room while they go through others."""
    draw = random.Random(seed)
    houses = [small_house(draw, draw.randint(1, 4)) for _ in range(many)] + drawn_houses(seed, many // 2, most=10)
    return houses + [staying_house(draw, draw.randint(2, 4), draw.randint(2, 6), 6) for _ in range(many)]


class Holds(Case):
    def check(self, house):
        self.agrees(told.rings_to_be, rings_to_be, house)
        self.agrees(told.hold_rings, hold_rings, house)

    def test_none(self):
        door = ((("-",),), ((),))
        for house in (((None,), (SHORT,)), ((door,), (SHORT,)), ((None, None), (ONCE,)), ((None,), (SHORT,) * 5)):
            self.tells((), rings_to_be, house)
            self.tells((), hold_rings, house)
        self.tells((), rings_to_be, ((None,) * 4, (ONCE, stay(2, 3, 5))))

    def test_two(self):
        self.tells((((0, 1), (1, 1)),), rings_to_be, ((None, None), (ONCE, BACK)))
        self.tells((((0, 1), (2, 1)), ((1, 1), (2, 1))), hold_rings, ((None, None), (ONCE, ONCE, BACK)))
        house = ((None, None), (stay(0, 1, 2), stay(1, 0, 2)))
        self.tells((((0, 1), (1, 1)), ((0, 1), (1, 3)), ((0, 3), (1, 1)), ((0, 3), (1, 3))), rings_to_be, house)
        self.tells((((0, 1), (1, 1)), ((0, 1), (1, 3)), ((0, 3), (1, 1))), hold_rings, house)

    def test_longer_ones(self):
        for many in (3, 4, 5):
            self.tells((tuple((k, 1) for k in range(many)),), hold_rings, known("table", many))
            self.tells((), rings_to_be, known("handed", many))
            self.tells((tuple((k, 2) for k in range(many)),), rings_to_be, known("gated", many))
            self.tells((), hold_rings, known("gated", many))

    def test_a_ring_that_goes_down(self):
        ways = tuple((("in", k), ("in", (k - 1) % 4), ("out", (k - 1) % 4), ("out", k)) for k in range(4))
        self.tells((((0, 1), (3, 1), (2, 1), (1, 1)),), hold_rings, ((None,) * 4, ways))

    def test_two_rooms_held(self):
        house = ((None,) * 3, (around(2, ONCE), BACK, around(0, stay(2, 1, 1))))
        self.check(house)
        self.assertGreater(len(rings_to_be(house)), len(hold_rings(house)))

    def test_known_houses(self):
        for name in known_names():
            for many in (2, 3, 4, 5):
                self.check(known(name, many))

    def test_just_as_many_as_may_be(self):
        house = holds_house(40)
        self.assertEqual(400, len(self.answer(rings_to_be, house)))
        self.check(house)
        house = holds_house(36, 4, True)
        self.assertEqual(361, len(self.answer(rings_to_be, house)))
        self.check(house)

    def test_one_too_many(self):
        house = ((None,) * 4, (stay(0, 1, 11), stay(0, 1, 11), stay(0, 1, 9) + around(2, stay(3, 2, 0)),
                               stay(0, 1, 9) + around(3, stay(2, 3, 0)), stay(1, 0, 10)))
        self.assertEqual(401, len(told.every_ring_to_be(house)))
        for function in (rings_to_be, hold_rings):
            self.raises(TooMany(400), function, house)
            self.raises(TooMany(400), function, holds_house(41))
            self.raises(TooMany(400), function, ((None, None), (stay(0, 1, 11),) * 2 + (stay(1, 0, 11),) * 3))
        less = (house[0], house[1][:3] + (stay(0, 1, 9),) + house[1][4:])
        self.assertEqual(400, len(self.answer(rings_to_be, less)))

    def test_too_many_that_never_come_together(self):
        ways = tuple(around(2, way) for way in (stay(0, 1, 10),) * 4 + (stay(1, 0, 10),))
        self.assertEqual(400, len(self.answer(rings_to_be, ((None,) * 3, ways))))
        self.tells((), hold_rings, ((None,) * 3, ways))
        ways = tuple(around(2, way) for way in (stay(0, 1, 10),) * 3 + (stay(1, 0, 10),) * 2)
        self.raises(TooMany(400), hold_rings, ((None,) * 3, ways))

    def test_many_rows_that_lead_nowhere_are_no_rings(self):
        for rooms in ((0, 1, 2, 3, 4, 5), (1, 2, 3, 4, 0, 5), (5, 4, 3, 2, 1, 0)):
            ways = tuple(stay(rooms[k], rooms[k + 1], 11) for k in range(4)) + ((("in", rooms[5]), ("out", rooms[5])),)
            for function in (rings_to_be, hold_rings):
                self.tells((), function, ((None,) * 6, ways))
            ways = ways[:4] + (stay(rooms[4], rooms[5], 11),)
            self.tells((), rings_to_be, ((None,) * 6, ways))

    def test_drawn_houses(self):
        some = 0
        for house in drawn(21, 150):
            self.check(house)
            some += bool(told.every_ring_to_be(house))
        self.assertGreater(some, 80)

    def test_a_great_house_is_refused_at_once(self):
        ways = [stay(k, (k + 1) % 5, 4) + stay((k + 2) % 5, (k + 3) % 5, 4) for k in range(5)]
        self.raises(TooMany(400), rings_to_be, ((None,) * 6, tuple(ways)))


class WhatHolds(Case):
    def test_the_second_main_point(self):
        both = 0
        for house in drawn(22, 100):
            rings = told.every_ring_to_be(house)
            if len(rings) > 400:
                continue
            loose = [ring for ring in rings if apart(house, told.choice_by(house, ring))]
            held = hold_rings(house)
            self.assertEqual(bool(loose), bool(held))
            both += 0 < len(held) < len(loose)
            if held:
                self.assertLessEqual(min(map(len, held)), min(map(len, loose)))
        self.assertGreater(both, 5)

    def test_without_a_ring_of_holds_apart_is_together(self):
        draw, checked = random.Random(23), 0
        for house in drawn(23, 80):
            if len(told.every_ring_to_be(house)) <= 400 and not hold_rings(house):
                for _ in range(20):
                    choice = tuple(draw.choice([None] + list(range(len(way)))) for way in house[1])
                    self.assertEqual(apart(house, choice), comes_together(house, choice))
                    checked += 1
        self.assertGreater(checked, 300)

    def test_wished_rooms_are_unlike(self):
        for house in drawn(24, 60):
            if len(told.every_ring_to_be(house)) <= 400:
                for ring in hold_rings(house):
                    wishes = {house[1][hand][place][1] for hand, place in ring}
                    self.assertEqual(len(ring), len(wishes))
                    self.assertLessEqual(len(ring), len(house[0]))

    def test_rooms_called_otherwise(self):
        draw = random.Random(25)
        for house in drawn(25, 60):
            other = renamed(house, drawn_names(draw, house))
            if len(told.every_ring_to_be(house)) <= 400:
                self.assertEqual(rings_to_be(house), rings_to_be(other))
                self.assertEqual(hold_rings(house), hold_rings(other))

    def test_answers_stay_whatever_is_asked_between(self):
        asked = [house for house in drawn(26, 30) if len(told.every_ring_to_be(house)) <= 400]
        ahead = [(rings_to_be(house), hold_rings(house)) for house in asked]
        again = [(rings_to_be(house), hold_rings(house)) for house in reversed(asked)]
        self.assertEqual(ahead, again[::-1])


if __name__ == "__main__":
    unittest.main()
