"""Hands that can be kept out: G1 to G4, and what G5 says of them."""

import random
import time
import unittest

from roomways.errors import Unfit
from roomways.keepouts import can_be_kept_out, chain, chain_error, free_doors, keeping, keeping_error, keeping_by
from roomways.knownhouses import known, known_names
from roomways.standings import start
from roomways.stuckness import is_never_stuck
from roomways.ways import entries, held, wish
from tests import retold_rings as rings
from tests import retold_stalls as told
from tests.support import (STRANGE, Case, around, door_by, drawn_door, drawn_house, drawn_names, drawn_order, drawn_run,
                           drawn_way, nested_in, parts, ranked_table, renamed, small_house, variants, without_hand)

SHORT = (("in", 0), ("out", 0))
INNER = (("in", 0), ("in", 1), ("out", 1), ("out", 0))
PLAIN = ((None,), (SHORT, SHORT))
POLITE = ((door_by(("-b", "s-")),), (SHORT, SHORT))
FAIR = ((door_by(("-e", "e-")),), (SHORT, SHORT))
FAR = ((door_by(("-ss", "b-s", "bb-")), None), (SHORT, INNER, (("in", 1), ("out", 1))))
ALONE = ((((("-",),), ((),)), None), (INNER,))
# 0 bows to 1, which is no mover, as it goes through the room that 0 holds; and 1 to 2.
ROW = (((door_by(("-be", "s-b", "es-"))[0], ((1, 2), (2, 0), (0, 1))), None),
       ((("in", 1), ("in", 0), ("out", 0), ("out", 1)), SHORT + (("in", 1), ("out", 1)), SHORT))
FUNCTIONS = (chain, keeping)


def free_house(draw, hands, many, steps=(2, 4, 4, 6, 8)):
    """A drawn house that never gets stuck, the doors of which are free."""
    while True:
        rooms = []
        for _ in range(many):
            orders = tuple(drawn_order(draw, hands, hand) for hand in range(hands))
            table = ranked_table(draw, hands, draw.choice((0, 0.3, 0.6)))
            rooms.append((table, orders) if draw.random() < 0.7 else None)
        house = (tuple(rooms), tuple(drawn_way(draw, many, draw.choice(steps)) for _ in range(hands)))
        if free_doors(house) and is_never_stuck(house):
            return house


class FreeDoors(Case):
    def test_ordinary(self):
        for many in (2, 3, 4, 5):
            for name, wanted in (("table", True), ("crossed", True), ("row", True), ("ranked", True), ("meek", False),
                                 ("proud", False), ("level", many == 2)):
                self.tells(wanted, free_doors, known(name, many))
        self.tells(True, free_doors, ALONE)

    def test_doors_that_never_come_to_harm(self):
        for rows in (("-b", "b-"), ("-s", "s-")):
            house = ((None, door_by(rows)), (INNER, INNER))
            self.tells(False, free_doors, house)
            self.assertTrue(is_never_stuck(house))
            for hand in (0, 1):
                for place in (0, 1):
                    self.raises(Unfit(), chain, house, hand, place)
                    self.raises(Unfit(), keeping, house, hand, place)
                self.raises(Unfit(), can_be_kept_out, house, hand)
            self.tells(True, free_doors, ((None, door_by(rows)), (INNER, SHORT)))

    def test_drawn_houses(self):
        draw = random.Random(91)
        seen = {True: 0, False: 0}
        for _ in range(300):
            house = small_house(draw, draw.randint(1, 5))
            self.agrees(told.free_doors, free_doors, house)
            seen[free_doors(house)] += 1
        self.assertGreater(min(seen.values()), 50, seen)


class Chains(Case):
    def check(self, house):
        """What is told of all entries of a house that fits; returns the lengths of the chains."""
        lengths = []
        for hand, way in enumerate(house[1]):
            found = False
            for place in entries(way):
                links = self.check_entry(house, hand, place)
                lengths.append(links)
                found = found or links > 0
            self.tells(found, can_be_kept_out, house, hand)
        return lengths

    def check_entry(self, house, hand, place):
        made, kept = self.answer(chain, house, hand, place), self.answer(keeping, house, hand, place)
        self.assertEqual(bool(told.all_chains(house, hand, place)), made is not None, (house, hand, place))
        self.assertEqual(made is None, kept is None)
        if made is None:
            return 0
        self.assertIsNone(told.chain_error(house, hand, place, made), (house, hand, place))
        self.tells(None, chain_error, house, hand, place, made)
        self.assertIsNone(told.keeping_error(house, hand, place, kept), (house, hand, place))
        self.tells(None, keeping_error, house, hand, place, kept)
        return len(made[0])

    def test_ordinary(self):
        self.tells((((0, 0),), 1), chain, PLAIN, 0, 0)
        self.tells((((0, 0),), 1), chain, POLITE, 0, 0)
        self.tells(None, chain, POLITE, 1, 0)
        self.tells(None, chain, FAIR, 0, 0)
        self.tells((((0, 0), (1, 1)), 2), chain, FAR, 0, 0)
        self.tells(None, keeping, FAIR, 1, 0)
        for house in (PLAIN, POLITE, FAIR, FAR, ALONE, ROW):
            self.check(house)

    def test_one_hand(self):
        self.tells(None, chain, ALONE, 0, 1)
        self.tells(None, keeping, ALONE, 0, 0)
        self.tells(False, can_be_kept_out, ALONE, 0)

    def test_a_row_ahead_of_one_door(self):
        self.tells((((0, 1), (1, 0)), 2), chain, ROW, 0, 1)
        self.check(ROW)

    def test_known_houses(self):
        for name in known_names():
            for many in (2, 3, 4, 5):
                house = known(name, many)
                if is_never_stuck(house) and free_doors(house):
                    self.check(house)
                else:
                    for hand in range(many):
                        for function in FUNCTIONS:
                            self.raises(Unfit(), function, house, hand, 0)
                        self.raises(Unfit(), can_be_kept_out, house, hand)

    def test_drawn_houses(self):
        draw = random.Random(92)
        seen = {}
        for _ in range(150):
            for links in self.check(free_house(draw, draw.randint(1, 5), draw.randint(1, 4))):
                seen[links] = seen.get(links, 0) + 1
        self.assertGreater(min(seen.get(links, 0) for links in (0, 1, 2)), 8, seen)

    def test_a_keeping_by_each_chain(self):
        draw = random.Random(93)
        seen = {}
        for _ in range(150):
            house = free_house(draw, draw.randint(3, 5), draw.randint(1, 3))
            for hand, way in enumerate(house[1]):
                for place in entries(way):
                    for links, mover in told.all_chains(house, hand, place):
                        kept = keeping_by(house, links, mover)
                        self.assertIsNone(told.keeping_error(house, hand, place, kept), (house, links, mover))
                        rooms = [wish(house[1][one], at) for one, at in links]
                        kind = (len(links), rooms.count(rooms[-1]))
                        seen[kind] = seen.get(kind, 0) + 1
        for kind in ((1, 1), (2, 1), (2, 2), (3, 1), (3, 2), (3, 3), (4, 4)):
            self.assertGreater(seen.get(kind, 0), 0, seen)

    def test_greatest_houses(self):
        draw = random.Random(94)
        ahead = time.monotonic()
        for number in range(16):
            rooms = tuple((ranked_table(draw, 5, 0.1), tuple(drawn_order(draw, 5, hand) for hand in range(5)))
                          if draw.random() < 0.6 else None for _ in range(5)) + (None,)
            house = (rooms, tuple(around(5, drawn_way(draw, 5, 22)) for _ in range(5)))
            for hand in range(5):
                if free_doors(house):
                    self.answer(can_be_kept_out, house, hand)
                    place = draw.choice(entries(house[1][hand]))
                    kept = self.answer(keeping, house, hand, place)
                    if kept is not None:
                        self.tells(None, keeping_error, house, hand, place, kept)
                else:
                    self.raises(Unfit(), can_be_kept_out, house, hand)
        self.assertLess(time.monotonic() - ahead, 60)

    def test_hands_and_places_of_any_kind(self):
        stuck = known("crossed", 2)
        for house in (PLAIN, FAR, stuck):
            for value in STRANGE + (nested_in(tuple, 3), (0,), "0"):
                if type(value) is int and value in range(len(house[1])):
                    continue
                for function in FUNCTIONS:
                    self.raises(Unfit(), function, house, value, 0)
                    self.raises(Unfit(), function, house, value, value)
                for function in (chain_error, keeping_error):
                    self.raises(Unfit(), function, house, value, 0, None)
                self.raises(Unfit(), can_be_kept_out, house, value)
        for house in (PLAIN, FAR, stuck):
            for value in STRANGE:
                if type(value) is int and value in entries(house[1][0]):
                    continue
                for function in FUNCTIONS:
                    self.raises(Unfit(), function, house, 0, value)
                for function in (chain_error, keeping_error):
                    self.raises(Unfit(), function, house, 0, value, None)


class ChainErrors(Case):
    def test_the_first_of_several(self):
        self.tells(None, chain_error, FAR, 0, 0, (((0, 0), (1, 1)), 2))
        for value in (None, ((), 2), (((0, 0),),), (((0, 0),), 3), (((0, 0),), True), (((0, 0), (1, 2)), 2),
                      (((0, 0), (3, 0)), 2), ([(0, 0)], 2), (((0, False),), 1), (([0, 0],), 1), (((0, 0, 0),), 1),
                      [((0, 0),), 1], (((0, 0), (1, 1)), -1), (((0, 0), (1, 9)), 2)):
            self.tells("form", chain_error, FAR, 0, 0, value)
        self.tells("first", chain_error, FAR, 0, 0, (((1, 1), (1, 1)), 1))
        self.tells("first", chain_error, FAR, 1, 0, (((1, 1),), 2))
        self.tells("hands", chain_error, FAR, 0, 0, (((0, 0), (1, 1)), 0))
        self.tells("hands", chain_error, FAR, 0, 0, (((0, 0), (1, 1)), 1))
        self.tells("hands", chain_error, FAR, 0, 0, (((0, 0), (1, 1), (0, 0)), 2))
        self.tells(("link", 0), chain_error, FAR, 0, 0, (((0, 0), (2, 0)), 1))
        self.tells(("link", 0), chain_error, FAR, 0, 0, (((0, 0), (1, 0)), 2))
        self.tells("last", chain_error, FAR, 0, 0, (((0, 0),), 1))
        self.tells("last", chain_error, FAR, 0, 0, (((0, 0),), 2))
        self.tells("last", chain_error, FAR, 2, 0, (((2, 0),), 0))
        self.tells(None, chain_error, FAR, 2, 0, (((2, 0),), 1))
        self.tells(None, chain_error, FAR, 1, 0, (((1, 0),), 0))

    def test_a_later_link(self):
        many = ((None,) * 5, tuple((("in", k), ("in", k + 1), ("out", k + 1), ("out", k)) for k in range(4))
                + ((("in", 4), ("out", 4)),))
        self.tells(None, chain_error, many, 0, 1, (((0, 1), (1, 1), (2, 1), (3, 1)), 4))
        self.tells(("link", 2), chain_error, many, 0, 1, (((0, 1), (1, 1), (2, 1), (3, 0)), 4))
        self.tells(("link", 1), chain_error, many, 0, 1, (((0, 1), (1, 1), (3, 1)), 4))
        self.tells("last", chain_error, many, 0, 1, (((0, 1), (1, 1), (2, 1)), 4))
        self.tells(None, chain_error, many, 0, 1, (((0, 1), (1, 1), (2, 1)), 3))

    def test_the_mover_and_together(self):
        twice = ((None, None), (SHORT + (("in", 1), ("out", 1)), INNER))
        self.tells("mover", chain_error, twice, 1, 1, (((1, 1),), 0))
        deep = around(0, around(1, (("in", 2), ("out", 2))))
        three = ((None,) * 3, (INNER, deep, (("in", 2), ("out", 2))))
        self.tells("together", chain_error, three, 0, 1, (((0, 1), (1, 2)), 2))
        four = ((None,) * 3, (INNER, deep, (("in", 2), ("in", 0), ("out", 0), ("out", 2))))
        self.tells("mover", chain_error, four, 0, 1, (((0, 1), (1, 2)), 2))
        # No room is held by two there, but each would have had to be first.
        late = (("in", 0), ("in", 1), ("out", 1), ("in", 2), ("out", 2), ("out", 0))
        early = (("in", 2), ("in", 1), ("in", 0), ("out", 0), ("in", 3), ("out", 3), ("out", 1), ("out", 2))
        last = (("in", 3), ("out", 3))
        self.tells("together", chain_error, ((None,) * 4, (late, early, last)), 0, 3, (((0, 3), (1, 4)), 2))

    def test_houses_that_get_stuck(self):
        meek = known("meek", 3)
        self.tells(None, chain_error, meek, 0, 0, (((0, 0), (1, 0)), 2))
        self.tells(None, chain_error, meek, 2, 0, (((2, 0),), 0))
        self.tells("last", chain_error, known("proud", 2), 0, 0, (((0, 0),), 1))
        self.tells("mover", chain_error, known("crossed", 2), 0, 1, (((0, 1),), 1))

    def test_strange_values(self):
        for house in (FAR, ROW, PLAIN):
            for value in STRANGE:
                self.agrees(told.chain_error, chain_error, house, 0, 0, value)
        for house, place in ((FAR, 0), (ROW, 1)):
            right = chain(house, 0, place)
            for path in parts(right):
                for value in variants(right, path):
                    self.agrees(told.chain_error, chain_error, house, 0, place, value)

    def test_drawn_values(self):
        draw = random.Random(95)
        seen = {}
        for _ in range(300):
            house = small_house(draw, draw.randint(2, 4))
            at = [(hand, place) for hand, way in enumerate(house[1]) for place in entries(way)]
            first = draw.choice(at)
            for _ in range(8):
                links = (first,) + tuple(draw.choice(at) for _ in range(draw.choice((0, 0, 1, 1, 2))))
                value = (links, draw.randrange(len(house[1])))
                self.agrees(told.chain_error, chain_error, house, first[0], first[1], value)
                error = chain_error(house, first[0], first[1], value)
                kind = error if type(error) is not tuple else error[0]
                seen[kind] = seen.get(kind, 0) + 1
        self.assertGreater(min(seen.get(kind, 0) for kind in (None, "hands", "link", "last", "mover")), 5, seen)


class KeepingErrors(Case):
    BOWED = ((1, 1, 0, 0, 0, 0, 1), (1, 1, 1, 1))

    def test_the_first_of_several(self):
        self.tells(None, keeping_error, PLAIN, 0, 0, ((0,), (1, 1, 1)))
        self.tells(None, keeping_error, POLITE, 0, 0, self.BOWED)
        for value in (None, ((0,),), ((0,), [1, 1, 1]), ((0,), (1, 1, 2)), ((False,), (1, 1, 1)), ((0,), (1, 1, 1), ()),
                      ((0,), None), [(0,), (1, 1, 1)], ((0,), (-1,))):
            self.tells("form", keeping_error, PLAIN, 0, 0, value)
        self.tells(("step", 3), keeping_error, PLAIN, 0, 0, ((0,), (1, 1, 0)))
        self.tells(("step", 3), keeping_error, PLAIN, 0, 0, ((0, 1, 1, 0), (0,)))
        self.tells(("out", 0), keeping_error, PLAIN, 0, 0, ((), (1, 1, 1)))
        self.tells(("out", 0), keeping_error, PLAIN, 0, 0, ((0, 0), (0, 0)))
        self.tells(("out", 1), keeping_error, PLAIN, 0, 0, ((0,), (0, 0, 0)))
        self.tells(("out", 4), keeping_error, PLAIN, 0, 0, ((0,), (1, 1, 1, 0)))
        self.tells("back", keeping_error, PLAIN, 0, 0, ((0,), (1, 1)))
        self.tells("back", keeping_error, PLAIN, 0, 0, ((0,), ()))
        self.tells(("hand", 0), keeping_error, POLITE, 0, 0, ((0,), (1, 1, 1, 1)))
        three = ((door_by(("-bb", "s-b", "ss-")),), (SHORT,) * 3)
        self.tells(("hand", 0), keeping_error, three, 1, 0, ((0, 1), (2, 2, 2, 2, 2)))
        self.tells(("hand", 1), keeping_error, three, 1, 0, ((1,), (2, 2, 2, 2, 2)))

    def test_who_rests_at_the_place_0_is_out(self):
        self.tells(("out", 0), keeping_error, PLAIN, 1, 0, ((0,), (0, 0, 0)))
        self.tells(("out", 1), keeping_error, FAR, 1, 1, ((1, 1, 1, 1), (1, 1)))

    def test_long_ones(self):
        self.tells(None, keeping_error, PLAIN, 0, 0, ((1, 1, 1) * 1500 + (0,), (1, 1, 1) * 1000))
        self.tells(None, keeping_error, PLAIN, 0, 0, ((0,), (1, 1, 1) * 2000))
        self.tells("back", keeping_error, PLAIN, 0, 0, ((0,), ((1, 1, 1) * 2000)[:-1]))

    def test_houses_that_get_stuck(self):
        meek = known("meek", 2)
        self.tells(None, keeping_error, meek, 0, 0, ((0, 0, 1, 1), (0, 1) * 4))
        proud = known("proud", 2)
        self.tells(("step", 4), keeping_error, proud, 0, 0, ((0, 0, 1, 1), (0,)))
        self.tells("back", keeping_error, proud, 0, 0, ((0, 0, 1, 1), ()))
        self.raises(Unfit(), keeping, meek, 0, 0)

    def test_strange_values(self):
        for house in (PLAIN, POLITE):
            for value in STRANGE:
                self.agrees(told.keeping_error, keeping_error, house, 0, 0, value)
        for house, right in ((PLAIN, ((0,), (1, 1, 1))), (POLITE, self.BOWED)):
            for path in parts(right):
                for value in variants(right, path):
                    self.agrees(told.keeping_error, keeping_error, house, 0, 0, value)

    def test_drawn_values(self):
        draw = random.Random(96)
        seen = {}
        for _ in range(300):
            house = drawn_house(draw, draw.randint(2, 3), draw.randint(1, 3), 4)
            hand = draw.randrange(len(house[1]))
            place = draw.choice(entries(house[1][hand]))
            values = []
            if is_never_stuck(house) and free_doors(house) and keeping(house, hand, place):
                right = keeping(house, hand, place)
                path = draw.choice(parts(right))
                values = [right] + [value for value in variants(right, path) if draw.random() < 0.1]
            run = drawn_run(draw, house, start(house), draw.randint(0, 8))
            values.append((run, tuple(draw.randrange(len(house[1])) for _ in range(draw.randint(0, 6)))))
            for value in values:
                self.agrees(told.keeping_error, keeping_error, house, hand, place, value)
                error = keeping_error(house, hand, place, value)
                kind = error if type(error) is not tuple else error[0]
                seen[kind] = seen.get(kind, 0) + 1
        self.assertGreater(min(seen.get(kind, 0) for kind in (None, "form", "step", "out", "back")), 10, seen)


class WhatHolds(Case):
    def test_chains_of_two_links_or_more_alone(self):
        draw = random.Random(97)
        checked = 0
        for _ in range(120):
            house = free_house(draw, draw.randint(2, 4), draw.randint(1, 4))
            for hand, way in enumerate(house[1]):
                rooms = {room for _, room in way}
                others = [[k for k, other in enumerate(house[1]) if k != hand and ("in", room) in other]
                          for room in rooms]
                if any(house[0][room][0][hand][k] == "bow" if house[0][room] else True
                       for room, users in zip(rooms, others) for k in users):
                    continue
                checked += 1
                for place in entries(way):
                    made = chain(house, hand, place)
                    self.assertTrue(made is None or len(made[0]) > 1)
                further = [room for k, other in enumerate(house[1]) if k != hand
                           for place in entries(other) for room in held(other, place)]
                if not rooms & set(further):
                    self.assertFalse(can_be_kept_out(house, hand))
        self.assertGreater(checked, 20)

    def test_one_hand_fewer(self):
        draw = random.Random(98)
        for _ in range(80):
            house = free_house(draw, draw.randint(2, 5), draw.randint(1, 4))
            less = draw.randrange(len(house[1]))
            other = without_hand(house, less)
            for hand, way in enumerate(house[1]):
                for place in entries(way):
                    if hand != less and chain(house, hand, place) is None:
                        self.assertIsNone(chain(other, hand - (hand > less), place))

    def test_rooms_called_otherwise(self):
        draw = random.Random(99)
        for _ in range(60):
            house = free_house(draw, draw.randint(1, 4), draw.randint(1, 4))
            other = renamed(house, drawn_names(draw, house))
            for hand, way in enumerate(house[1]):
                self.assertEqual(can_be_kept_out(house, hand), can_be_kept_out(other, hand))
                for place in entries(way):
                    self.assertEqual(chain(house, hand, place) is None, chain(other, hand, place) is None)

    def test_stays_whatever_is_asked_between(self):
        draw = random.Random(100)
        asked = [free_house(draw, 4, 3) for _ in range(20)]
        ahead = [[keeping(house, hand, entries(way)[0]) for hand, way in enumerate(house[1])] for house in asked]
        again = [[keeping(house, hand, entries(way)[0]) for hand, way in enumerate(house[1])]
                 for house in reversed(asked)]
        self.assertEqual(ahead, again[::-1])

    def test_in_drawn_houses_of_any_kind(self):
        draw = random.Random(101)
        seen = {True: 0, False: 0}
        for _ in range(200):
            hands = draw.randint(1, 3)
            house = ((drawn_door(draw, hands), None), tuple(drawn_way(draw, 2, 6) for _ in range(hands)))
            hand = draw.randrange(hands)
            self.agrees(told.can_be_kept_out, can_be_kept_out, house, hand)
            seen[rings.is_never_stuck(house)] += 1
        self.assertGreater(min(seen.values()), 20, seen)


if __name__ == "__main__":
    unittest.main()
