"""Rings at one door: D3 and D5, and what D6 says of them."""

import random
import unittest

from roomways.doors import bow_rings, door_rings, doors_to_be, wait_rings
from roomways.errors import TooMany
from roomways.holds import hold_rings
from roomways.knownhouses import known
from roomways.together import apart, comes_together
from tests import retold_rings as told
from tests.support import (Case, around, door_by, door_house, drawn_door, drawn_houses, drawn_names, renamed,
                           small_house)

SHORT = (("in", 0), ("out", 0))
ONCE = (("in", 0), ("in", 1), ("out", 1), ("out", 0))
BOWS = door_by(("-b", "b-"))
STANDS = door_by(("-s", "s-"))
ALL = (bow_rings, wait_rings, doors_to_be, door_rings)


def few(house):
    return all(len(told.every_door_to_be(house, room)) <= 400 for room in range(len(house[0])))


class Doors(Case):
    def check(self, house):
        for room in range(len(house[0])):
            for function in ALL:
                self.agrees(getattr(told, function.__name__), function, house, room)

    def test_plain_rooms(self):
        for house in (known("table", 5), known("row", 2), ((None,), (SHORT,)), known("crossed", 4)):
            for room in range(len(house[0])):
                for function in ALL:
                    self.tells((), function, house, room)

    def test_one_hand(self):
        for function in ALL:
            self.tells((), function, ((((("-",),), ((),)),), (SHORT,)), 0)

    def test_five_hands(self):
        rings = 10 + 20 + 30 + 24
        self.assertEqual(rings, len(bow_rings(known("meek", 5), 0)))
        self.assertEqual(rings, len(wait_rings(known("proud", 5), 0)))
        for name in ("meek", "proud", "level", "ranked"):
            for many in (2, 3, 4, 5):
                self.check(known(name, many))

    def test_hands_that_do_not_enter(self):
        elsewhere = (("in", 1), ("out", 1))
        door = door_by(("-bb", "b-b", "bb-"))
        house = ((door, None), (SHORT, elsewhere, SHORT))
        self.tells(((0, 2),), bow_rings, house, 0)
        self.tells((((0, 0), (2, 0)),), door_rings, house, 0)
        self.tells((), bow_rings, ((door, None), (SHORT, elsewhere, elsewhere)), 0)
        self.tells((), bow_rings, ((door, None), (elsewhere,) * 3), 0)
        self.tells((), bow_rings, ((door, None), (SHORT,) * 3), 1)
        ring = door_by(("-sbb", "b-sb", "bb-s", "sbb-"))
        self.tells(((0, 1, 2, 3),), wait_rings, ((ring, None), (SHORT,) * 4), 0)
        self.tells((), wait_rings, ((ring, None), (SHORT, SHORT, elsewhere, SHORT)), 0)

    def test_bow_and_wait_rings_of_the_same_hands(self):
        house = ((door_by(("-sb", "b-s", "sb-")),), (SHORT,) * 3)
        self.tells(((0, 1, 2),), wait_rings, house, 0)
        self.tells(((0, 2, 1),), bow_rings, house, 0)
        self.tells((((0, 0), (1, 0), (2, 0)), ((0, 0), (2, 0), (1, 0))), doors_to_be, house, 0)
        self.check(house)

    def test_held_rooms_keep_them_apart(self):
        house = ((BOWS, STANDS), (ONCE, ONCE))
        self.tells((((0, 0), (1, 0)),), door_rings, house, 0)
        self.tells((((0, 1), (1, 1)),), doors_to_be, house, 1)
        self.tells((), door_rings, house, 1)

    def test_together_is_more_than_apart(self):
        through = (("in", 1), ("in", 2), ("out", 2), ("in", 0), ("out", 0), ("out", 1))
        back = (("in", 2), ("in", 1), ("out", 1), ("in", 0), ("out", 0), ("out", 2))
        house = ((STANDS, None, None), (through, back))
        self.tells((((0, 3), (1, 3)),), doors_to_be, house, 0)
        self.tells((), door_rings, house, 0)
        self.assertTrue(hold_rings(house))

    def test_just_as_many_as_may_be(self):
        house = door_house(5, 5, 8)
        self.assertEqual(400, len(self.answer(doors_to_be, house, 0)))
        self.check(house)
        self.assertEqual(400, len(self.answer(door_rings, house, 0)))
        self.assertEqual(361, len(self.answer(doors_to_be, door_house(4, 5, 9, True), 0)))

    def test_one_too_many(self):
        for house in (door_house(5, 5, 8, True), door_house(6, 6, 6), door_house(12, 12, 12, True)):
            self.raises(TooMany(400), doors_to_be, house, 0)
            self.raises(TooMany(400), door_rings, house, 0)
        self.assertEqual(401, len(told.every_door_to_be(door_house(5, 5, 8, True), 0)))

    def test_one_door_too_many_is_nothing_to_another(self):
        door = door_house(5, 5, 8, True)[0][0]
        ways = door_house(5, 5, 8, True)[1][:2] + tuple(
            way + (("in", 1), ("out", 1)) for way in door_house(5, 5, 8, True)[1][2:])
        house = ((door, door_by(("-bbbb", "b-bbb", "bb-bb", "bbb-b", "bbbb-")), None), ways)
        self.raises(TooMany(400), doors_to_be, house, 0)
        self.assertEqual(5, len(self.answer(doors_to_be, house, 1)))
        self.assertEqual(5, len(self.answer(door_rings, house, 1)))
        self.tells((), door_rings, house, 2)

    def test_too_many_that_never_come_together(self):
        house = door_house(4, 6, 8)
        house = (house[0] + (None,), tuple(around(1, way) for way in house[1]))
        self.assertEqual(384, len(self.answer(doors_to_be, house, 0)))
        self.tells((), door_rings, house, 0)
        house = door_house(5, 5, 9)
        house = (house[0] + (None,), tuple(around(1, way) for way in house[1]))
        self.raises(TooMany(400), door_rings, house, 0)

    def test_the_most_of_all_is_refused_at_once(self):
        self.raises(TooMany(400), doors_to_be, (known("meek", 5)[0], (SHORT * 12,) * 5), 0)
        self.raises(TooMany(400), door_rings, (known("level", 5)[0], (SHORT * 12,) * 5), 0)

    def test_drawn_houses(self):
        draw = random.Random(41)
        houses = [small_house(draw, draw.randint(1, 4)) for _ in range(120)] + drawn_houses(41, 40, most=8)
        some = 0
        for house in houses:
            self.check(house)
            some += few(house) and any(door_rings(house, room) for room in range(len(house[0])))
        self.assertGreater(some, 30)


class WhatHolds(Case):
    def test_without_a_ring_of_holds_apart_is_together(self):
        draw = random.Random(42)
        seen = {True: 0, False: 0}
        for _ in range(200):
            house = small_house(draw, draw.randint(2, 4), doors=1)
            gate = len(house[0])
            house = (house[0] + (None,), tuple(around(gate, way) if draw.random() < 0.5 else way for way in house[1]))
            if not hold_rings(house) and few(house):
                for room in range(len(house[0])):
                    for ring in doors_to_be(house, room):
                        choice = told.choice_by(house, ring)
                        self.assertEqual(apart(house, choice), comes_together(house, choice))
                        seen[apart(house, choice)] += 1
        self.assertGreater(min(seen.values()), 30, seen)

    def test_rooms_called_otherwise(self):
        draw = random.Random(43)
        for _ in range(60):
            house = small_house(draw, draw.randint(1, 4))
            names = drawn_names(draw, house)
            for room in range(len(house[0])):
                if few(house):
                    for function in ALL:
                        self.assertEqual(function(house, room), function(renamed(house, names), names[room]))

    def test_answers_stay_whatever_is_asked_between(self):
        draw = random.Random(44)
        asked = [((drawn_door(draw, 4),), (SHORT,) * 4) for _ in range(40)]
        ahead = [[function(house, 0) for function in ALL] for house in asked]
        again = [[function(house, 0) for function in ALL] for house in reversed(asked)]
        self.assertEqual(ahead, again[::-1])


if __name__ == "__main__":
    unittest.main()
