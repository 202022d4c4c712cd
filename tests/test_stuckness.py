"""Whether houses get stuck: E2, and what E5 says of it."""

import itertools
import random
import time
import unittest

from roomways.doors import door_rings
from roomways.errors import TooMany
from roomways.holds import hold_rings, rings_to_be
from roomways.knownhouses import known
from roomways.stuckness import is_never_stuck, stuck_ring
from tests import retold_rings as told
from tests.support import (Case, around, door_by, door_house, drawn_door, drawn_houses, drawn_names, drawn_way,
                           holds_house, renamed, small_house, stay, staying_house, without_hand)

SHORT = (("in", 0), ("out", 0))
ONCE = (("in", 0), ("in", 1), ("out", 1), ("out", 0))
BACK = (("in", 1), ("in", 0), ("out", 0), ("out", 1))
BOWS = door_by(("-b", "b-"))
STANDS = door_by(("-s", "s-"))


def rising_way(draw, many, most):
    """A drawn way by which rooms are entered while lesser ones alone are held."""
    way = drawn_way(draw, many, most)
    return way if all(way[k][1] < way[k + 1][1] for k in range(len(way) - 1)
                      if way[k][0] == way[k + 1][0] == "in") else rising_way(draw, many, most)


class Stuckness(Case):
    def check(self, house):
        self.agrees(told.stuck_ring, stuck_ring, house)
        self.agrees(told.is_never_stuck, is_never_stuck, house)

    def test_one_hand(self):
        for house in (((None,), (SHORT,)), ((((("-",),), ((),)),), (SHORT * 12,))):
            self.tells(None, stuck_ring, house)
            self.tells(True, is_never_stuck, house)

    def test_known_houses(self):
        for many in (2, 3, 4, 5):
            self.tells(("hold", tuple((k, 1) for k in range(many))), stuck_ring, known("table", many))
            self.tells(("hold", ((0, 1), (1, 1))), stuck_ring, known("crossed", many))
            self.tells(("door", 0, ((0, 0), (1, 0))), stuck_ring, known("meek", many))
            self.tells(("door", 0, ((0, 0), (1, 0))), stuck_ring, known("proud", many))
            for name in ("handed", "gated", "row", "ranked"):
                self.tells(None, stuck_ring, known(name, many))
                self.tells(True, is_never_stuck, known(name, many))
        self.tells(None, stuck_ring, known("level", 2))
        self.tells(("door", 0, ((0, 0), (1, 0), (2, 0))), stuck_ring, known("level", 4))

    def test_the_fewest_hands_then_the_least(self):
        ways = known("table", 3)[1] + ((("in", 4), ("in", 3), ("out", 3), ("out", 4)), stay(3, 4, 1))
        self.tells(("hold", ((3, 1), (4, 1))), stuck_ring, ((None,) * 5, ways))
        self.tells(("hold", ((0, 1), (1, 1), (2, 1))), stuck_ring, ((None,) * 5, ways[:4]))
        self.tells(("hold", ((0, 1), (2, 1))), stuck_ring, ((None, None), (ONCE, ONCE, BACK, BACK)))

    def test_tables_the_rooms_of_which_are_called_otherwise(self):
        for many in (3, 4, 5):
            for names in itertools.permutations(range(many)):
                house = renamed(known("table", many), list(names))
                self.assertEqual(("hold", tuple((k, 1) for k in range(many))), stuck_ring(house))
            for hands in list(itertools.permutations(range(many)))[::7]:
                ways = tuple(known("table", many)[1][hand] for hand in hands)
                self.check(((None,) * 6, ways))
                self.check(((None,) * 6, tuple(around(5, way) if way[0] == ("in", 0) else way for way in ways)))

    def test_holds_come_ahead_of_doors(self):
        ways = known("table", 3)[1]
        house = ((door_by(("-bb", "b-b", "bb-")), None, None), ways)
        self.tells(("hold", ((0, 1), (1, 1), (2, 1))), stuck_ring, house)
        self.check(house)

    def test_the_door_of_the_fewest_hands_then_the_least_room(self):
        three = door_by(("-sb", "b-s", "sb-"))
        two = door_by(("-bs", "s-s", "sb-"))
        pair = door_by(("-sb", "b-b", "bb-"))
        both = SHORT + (("in", 1), ("out", 1))
        self.tells(("door", 1, ((0, 2), (2, 2))), stuck_ring, ((three, pair), (both,) * 3))
        self.tells(("door", 0, ((0, 0), (2, 0))), stuck_ring, ((pair, pair), (both,) * 3))
        self.tells(("door", 0, ((0, 0), (1, 0), (2, 0))), stuck_ring, ((three, None), (both,) * 3))
        self.check(((three, two), (both,) * 3))
        self.check(((two, three), (both,) * 3))

    def test_places_by_which_a_door_is_come_to_together(self):
        kept = (("in", 1), ("in", 0), ("out", 0), ("out", 1), ("in", 0), ("out", 0))
        for door in (BOWS, STANDS):
            self.tells(("door", 0, ((0, 1), (1, 4))), stuck_ring, ((door, None), (kept, kept)))
            self.tells(None, stuck_ring, ((door, None), (around(2, kept[:4])[1:-1],) * 2))

    def test_drawn_houses(self):
        draw = random.Random(51)
        houses = [small_house(draw, draw.randint(1, 4)) for _ in range(250)] + drawn_houses(51, 40, most=8)
        houses += [staying_house(draw, draw.randint(2, 4), draw.randint(2, 6), 5) for _ in range(100)]
        seen = {}
        for house in houses:
            try:
                ring = told.stuck_ring(house)
            except TooMany:
                continue
            self.check(house)
            kind = ring and (ring[0], len(ring[-1]))
            seen[kind] = seen.get(kind, 0) + 1
        self.assertGreater(min(seen.get(kind, 0) for kind in (None, ("hold", 2), ("door", 2), ("door", 3))), 10, seen)

    def test_rings_of_holds_that_are_not_the_first(self):
        later = (("in", 0), ("in", 2), ("out", 2), ("in", 1), ("out", 1), ("out", 0))
        through = (("in", 1), ("in", 0), ("out", 0), ("in", 3), ("in", 0), ("out", 0), ("out", 3), ("out", 1))
        for ways in ((later, through), (through, later), (around(3, later), BACK, through)):
            self.check(((None,) * 4, ways))


class NeverRefused(Case):
    """However many rings there are, each answer comes in few seconds."""

    def check(self, house, wanted=None):
        ahead = time.monotonic()
        ring = stuck_ring(house)
        self.assertEqual(ring is None, is_never_stuck(house))
        self.assertLess(time.monotonic() - ahead, 6)
        if wanted:
            self.assertEqual(wanted, ring)
        return ring

    def test_just_as_many_and_one_more(self):
        for house in (holds_house(40), holds_house(41), holds_house(44)):
            self.check(house, ("hold", ((0, 1), (4, 1))))
        self.check(door_house(5, 5, 8), ("door", 0, ((0, 0), (1, 0), (2, 0))))
        self.check(door_house(5, 5, 8, True), ("door", 0, ((3, 0), (4, 0))))
        self.check(door_house(12, 12, 12), ("door", 0, ((0, 0), (1, 0), (2, 0))))

    def test_many_that_never_come_together(self):
        ways = tuple(around(5, way) for way in (stay(0, 1, 10), stay(1, 0, 10)) * 2 + (stay(0, 1, 10),))
        house = ((None,) * 6, ways)
        self.assertRaises(TooMany, rings_to_be, house)
        self.assertIsNone(self.check(house))
        for name in ("meek", "proud", "level"):
            door = known(name, 5)[0][0]
            self.assertIsNone(self.check(((door, None), (around(1, SHORT * 11),) * 5)))
        self.assertIsNone(self.check(((known("ranked", 5)[0][0],) * 6, (SHORT * 12,) * 5)))

    def test_greatest_drawn_houses(self):
        draw = random.Random(52)
        many = 0
        for number in range(60):
            rooms = tuple(drawn_door(draw, 5) if draw.random() < number % 3 / 2 else None for _ in range(6))
            ways = []
            while len(ways) < 5:
                way = drawn_way(draw, 6) if number % 2 else staying_house(draw, 1, 6, 12, 0)[1][0]
                ways += [way] if len(way) > 20 else []
            self.check((rooms, tuple(ways)))
            many += len(told.every_ring_to_be((rooms, tuple(ways)))) > 400
        self.assertGreater(many, 10)

    def test_many_rings_the_fewest_of_which_has_five_hands(self):
        ways = tuple(stay(k, (k + 1) % 5, 11) for k in range(5))
        self.assertRaises(TooMany, hold_rings, ((None,) * 6, ways))
        self.check(((None,) * 6, ways), ("hold", tuple((k, 1) for k in range(5))))
        ways = tuple((("in", k), ("in", 5), ("out", 5)) + stay(k, (k + 1) % 5, 10)[1:] for k in range(5))
        self.check(((None,) * 6, ways), ("hold", tuple((k, 3) for k in range(5))))

    def test_doors_of_drawn_words_and_rising_ways(self):
        draw = random.Random(53)
        seen = {}
        for _ in range(40):
            rooms = tuple(drawn_door(draw, 5) for _ in range(6))
            ways = tuple(around(0, tuple((word, room + 1) for word, room in rising_way(draw, 5, 14)))
                         if draw.random() < 0.7 else rising_way(draw, 6, 12) for _ in range(5))
            ring = self.check((rooms, ways))
            seen[ring and ring[0]] = seen.get(ring and ring[0], 0) + 1
        self.assertGreater(seen.get("door", 0), 5, seen)


class WhatHolds(Case):
    def test_plain_rooms_in_the_place_of_doors(self):
        draw = random.Random(54)
        for _ in range(150):
            house = small_house(draw, draw.randint(2, 5))
            plain = (tuple(None if draw.random() < 0.5 else room for room in house[0]), house[1])
            ring = stuck_ring(house)
            if ring is None:
                self.assertTrue(is_never_stuck(plain))
            elif ring[0] == "hold":
                self.assertEqual(ring, stuck_ring(plain))

    def test_hands_left_out(self):
        draw = random.Random(55)
        for _ in range(150):
            house = small_house(draw, draw.randint(2, 5))
            if is_never_stuck(house):
                self.assertTrue(is_never_stuck(without_hand(house, draw.randrange(len(house[1])))))

    def test_doors_that_are_never_stuck_by_themselves(self):
        draw = random.Random(56)
        for _ in range(150):
            house = small_house(draw, draw.randint(2, 4))
            alone = all(is_never_stuck(((room,), (SHORT,) * len(house[1]))) for room in house[0])
            if alone:
                self.assertEqual(not hold_rings(house), is_never_stuck(house))

    def test_rooms_called_otherwise(self):
        draw = random.Random(57)
        for _ in range(100):
            house = small_house(draw, draw.randint(1, 5))
            other = renamed(house, drawn_names(draw, house))
            self.assertEqual(is_never_stuck(house), is_never_stuck(other))

    def test_it_is_a_ring_as_told(self):
        draw = random.Random(58)
        for _ in range(100):
            house = small_house(draw, draw.randint(2, 4))
            ring = stuck_ring(house)
            if ring and ring[0] == "hold":
                self.assertIn(ring[1], hold_rings(house))
            elif ring:
                self.assertIn(ring[2], door_rings(house, ring[1]))

    def test_answers_stay_whatever_is_asked_between(self):
        asked = drawn_houses(59, 40)
        ahead = [stuck_ring(house) for house in asked]
        again = [stuck_ring(house) for house in reversed(asked)]
        self.assertEqual(ahead, again[::-1])


if __name__ == "__main__":
    unittest.main()
