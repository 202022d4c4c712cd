"""Choices: C2 to C5, and what C6 says of choices."""

import itertools
import random
import unittest

from roomways.errors import Unfit
from roomways.knownhouses import known, known_names
from roomways.runs import behind
from roomways.standings import start
from roomways.together import apart, arcs, bar, bar_error, comes_together, meeting, order_error, order_of
from roomways.ways import held
from tests import retold_rings as told
from tests.support import (STRANGE, Case, drawn_choice, drawn_door, drawn_houses, drawn_names, drawn_run, parts,
                           renamed, small_house, staying_house, variants)

SHORT = (("in", 0), ("out", 0))
ONCE = (("in", 0), ("in", 1), ("out", 1), ("out", 0))
BACK = (("in", 1), ("in", 0), ("out", 0), ("out", 1))
THROUGH = (("in", 0), ("in", 1), ("out", 1), ("in", 2), ("out", 2), ("out", 0))
LATE = THROUGH
EARLY = (("in", 1), ("in", 0), ("out", 0), ("in", 2), ("in", 0), ("out", 0), ("out", 2), ("out", 1))
PAIR = ((None,) * 3, (LATE, EARLY))
CROSSED = ((None, None), (ONCE, BACK))
ALONE = ((((("-",),), ((),)),), (SHORT,))
# Each goes through the room that the next one holds, and holds one behind that.
ROUND = ((None,) * 6, tuple(
    (("in", k), ("in", (k + 1) % 5), ("out", (k + 1) % 5), ("in", 5), ("out", 5), ("out", k)) for k in range(5)))


def choices(draw, house, many):
    """So many drawn choices of house, of none, of one and of all hands among them."""
    none = (None,) * len(house[1])
    some = [drawn_choice(draw, house, draw.choice((0.4, 0.7, 1))) for _ in range(many)]
    hand = draw.randrange(len(house[1]))
    return [none, none[:hand] + (draw.randrange(len(house[1][hand])),) + none[hand + 1:]] + some


def spots_of(choice):
    return tuple((0, "rest", 0) if place is None else (place, "go", 0) for place in choice)


class Choices(Case):
    def check(self, house, choice):
        """Everything that is told of a choice; returns whether it comes together."""
        self.agrees(told.apart, apart, house, choice)
        self.agrees(told.arcs, arcs, house, choice)
        self.agrees(told.comes_together, comes_together, house, choice)
        order, barred = self.answer(order_of, house, choice), self.answer(bar, house, choice)
        together = told.comes_together(house, choice)
        self.assertEqual(together, order is not None, (house, choice))
        self.assertEqual(together, barred is None, (house, choice))
        if together:
            self.assertIsNone(told.order_error(house, choice, order))
            self.tells(None, order_error, house, choice, order)
            run = self.answer(meeting, house, choice)
            self.assertLessEqual(len(run), 4000)
            self.assertEqual(spots_of(choice), behind(house, start(house), run)[0], (house, choice))
        else:
            self.assertIsNone(told.bar_error(house, choice, barred), (house, choice))
            self.tells(None, bar_error, house, choice, barred)
            self.raises(Unfit(), meeting, house, choice)
        return together

    def test_none_one_and_all(self):
        for house in (ALONE, CROSSED, PAIR, ROUND, known("level", 5)):
            hands = len(house[1])
            none = (None,) * hands
            self.tells((), order_of, house, none)
            self.tells((), arcs, house, none)
            self.tells((), meeting, house, none)
            self.assertTrue(self.check(house, none))
            self.assertTrue(self.check(house, (0,) * hands))
            for hand in range(hands):
                for place in range(len(house[1][hand])):
                    self.assertTrue(self.check(house, none[:hand] + (place,) + none[hand + 1:]))

    def test_all_choices_of_some_houses(self):
        three = ((None,) * 3, (LATE, EARLY, (("in", 2), ("in", 1), ("out", 1), ("out", 2))))
        for house in (CROSSED, PAIR, three, known("table", 3), known("handed", 3), known("gated", 2)):
            together = 0
            for choice in itertools.product(*[[None] + list(range(len(way))) for way in house[1]]):
                together += self.check(house, choice)
            self.assertGreater(together, 10)

    def test_the_three_manners_of_a_bar(self):
        self.tells(("room", 2, 0, 1), bar, PAIR, (4, 4))
        self.tells(True, apart, ROUND, (3,) * 5)
        self.tells(tuple(sorted((k, (k + 1) % 5) for k in range(5))), arcs, ROUND, (3,) * 5)
        self.tells(False, comes_together, ROUND, (3,) * 5)
        self.assertEqual(("ring", 5), (bar(ROUND, (3,) * 5)[0], len(bar(ROUND, (3,) * 5)[1])))
        self.tells(True, comes_together, ROUND, (3, 3, 3, 3, 1))
        self.tells((4, 3, 2, 1, 0)[::-1], order_of, ROUND, (3, 3, 3, 3, 1))
        self.tells(False, apart, ROUND, (4, 4, None, None, None))
        self.tells(("room", 5, 1, 3), bar, ROUND, (1, 4, 1, 4, 3))

    def test_doors_are_nothing_to_it(self):
        draw = random.Random(3)
        for house in drawn_houses(3, 60, most=12):
            plain = ((None,) * len(house[0]), house[1])
            for choice in choices(draw, house, 4):
                for function in (apart, arcs, comes_together):
                    self.assertEqual(function(plain, choice), function(house, choice))

    def test_drawn_choices(self):
        draw = random.Random(4)
        seen = {True: 0, False: 0, "ring": 0}
        staying = [staying_house(draw, draw.randint(2, 5), draw.randint(3, 6)) for _ in range(150)]
        for house in drawn_houses(4, 100) + staying:
            for choice in choices(draw, house, 6):
                seen[self.check(house, choice)] += 1
                seen["ring"] += apart(house, choice) and not comes_together(house, choice)
        self.assertGreater(min(seen.values()), 20, seen)

    def test_known_houses(self):
        draw = random.Random(5)
        for name in known_names():
            for many in (2, 5):
                for choice in choices(draw, known(name, many), 8):
                    self.check(known(name, many), choice)

    def test_longest_ways(self):
        draw = random.Random(6)
        for _ in range(3):
            way = sum([(("in", k % 5), ("in", 5), ("out", 5), ("out", k % 5)) for k in range(6)], ())
            house = (tuple(drawn_door(draw, 5) for _ in range(6)), (way,) * 5)
            self.check(house, (21, 23, 17, 13, 9))
            self.check(house, (20, 22, 16, 12, 23))
            self.check(house, (1, 5, 9, 13, 17))


class OrderErrors(Case):
    def test_the_first_of_several(self):
        self.tells("apart", order_error, PAIR, (4, 4), None)
        self.tells("apart", order_error, PAIR, (4, 4), (0, 1, 2))
        self.tells("form", order_error, PAIR, (3, 4), [0, 0])
        self.tells("form", order_error, PAIR, (3, 4), None)
        self.tells(("room", 0), order_error, PAIR, (1, 4), (True, 0, 0))
        self.tells(("room", 1), order_error, PAIR, (1, 4), (0, 0))
        self.tells(("room", 1), order_error, PAIR, (1, 4), (0, 3, 1))
        self.tells(("room", 0), order_error, PAIR, (1, 1), (2,))
        self.tells(("room", 3), order_error, PAIR, (1, 4), (1, 0, 2, 1))
        self.tells(("room", 0), order_error, PAIR, (None, 0), (0,))
        self.tells(("lack", 0), order_error, PAIR, (1, 4), ())
        self.tells(("lack", 1), order_error, PAIR, (1, 4), (0,))
        self.tells(("lack", 2), order_error, PAIR, (1, 4), (0, 1))
        self.tells(("arc", 1, 0), order_error, PAIR, (1, 4), (0, 1, 2))
        self.tells(("arc", 1, 0), order_error, PAIR, (1, 4), (2, 0, 1))
        self.tells(("arc", 1, 2), order_error, PAIR, (1, 4), (2, 1, 0))
        self.tells(("arc", 0, 1), order_error, PAIR, (3, 4), (1, 0, 2))
        self.tells(None, order_error, PAIR, (None, 0), ())

    def test_all_rows_of_rooms(self):
        for choice in ((1, 4), (3, 4), (4, 1), (1, 1), (4, 4), (None, 5), (2, 5)):
            for many in range(5):
                for value in itertools.product(range(-1, 4), repeat=many):
                    self.agrees(told.order_error, order_error, PAIR, choice, value)

    def test_strange_values(self):
        for choice in ((1, 4), (4, 4), (None, None), (3, 1)):
            for value in STRANGE:
                self.agrees(told.order_error, order_error, PAIR, choice, value)
        for path in parts((1, 0, 2)):
            for value in variants((1, 0, 2), path):
                self.agrees(told.order_error, order_error, PAIR, (1, 4), value)

    def test_drawn(self):
        draw = random.Random(7)
        for house in drawn_houses(7, 100, most=12):
            for choice in choices(draw, house, 3):
                rooms = told.kept(house, choice)
                draw.shuffle(rooms)
                self.agrees(told.order_error, order_error, house, choice, tuple(rooms))
                self.agrees(told.order_error, order_error, house, choice, tuple(rooms[1:]))
                self.agrees(told.order_error, order_error, house, choice, tuple(rooms + rooms[:1]))


class BarErrors(Case):
    def test_the_first_of_several(self):
        self.tells("form", bar_error, PAIR, (4, 4), ("room", 3, 0, 1))
        self.tells("form", bar_error, PAIR, (4, 4), ("room", 2, 0, 2))
        self.tells("form", bar_error, PAIR, (4, 4), ("room", 2, 1, 0))
        self.tells("form", bar_error, PAIR, (4, 4), ("room", 2, 1, 1))
        self.tells("form", bar_error, PAIR, (4, 4), ("room", 2, False, True))
        self.tells("form", bar_error, PAIR, (4, 4), ("room", True, 0, 1))
        self.tells("form", bar_error, PAIR, (4, 4), ["room", 2, 0, 1])
        self.tells("form", bar_error, PAIR, (4, 4), ("ring", 2, 0, 1))
        self.tells(None, bar_error, PAIR, (4, 4), ("room", 2, 0, 1))
        self.tells(("hand", 0), bar_error, PAIR, (None, 4), ("room", 2, 0, 1))
        self.tells(("hand", 1), bar_error, PAIR, (4, None), ("room", 2, 0, 1))
        self.tells(("hand", 0), bar_error, PAIR, (None, None), ("room", 2, 0, 1))
        self.tells(("hand", 1), bar_error, PAIR, (4, 4), ("room", 0, 0, 1))
        for rooms in ((), (0,), (0, 0), (0, 1, 0), (0, 3), (0, True), [0, 1], None, (0, -1), 1):
            self.tells("form", bar_error, PAIR, (3, 4), ("ring", rooms))
        self.tells("form", bar_error, PAIR, (3, 4), ("rings", (0, 1)))
        self.tells("form", bar_error, PAIR, (3, 4), ("ring", (0, 1), ()))
        self.tells(("arc", 0), bar_error, PAIR, (3, 4), ("ring", (0, 2, 1)))
        self.tells(("arc", 0), bar_error, PAIR, (3, 4), ("ring", (2, 0, 1)))
        self.tells(("arc", 1), bar_error, PAIR, (3, 4), ("ring", (1, 2)))
        self.tells(("arc", 0), bar_error, PAIR, (1, 1), ("ring", (1, 0)))
        self.tells(None, bar_error, PAIR, (3, 4), ("ring", (0, 1)))

    def test_a_ring_where_a_room_is_held_by_two(self):
        house = ((None,) * 3, (THROUGH, EARLY, (("in", 2), ("out", 2))))
        self.tells(None, bar_error, house, (3, 4, 1), ("ring", (0, 1)))
        self.tells(None, bar_error, house, (3, 4, 1), ("room", 2, 1, 2))

    def test_strange_values(self):
        for choice in ((3, 4), (4, 4), (1, 4)):
            for value in STRANGE:
                self.agrees(told.bar_error, bar_error, PAIR, choice, value)
            for right in (("room", 2, 0, 1), ("ring", (0, 1)), ("ring", (0, 2, 1))):
                for path in parts(right):
                    for value in variants(right, path):
                        self.agrees(told.bar_error, bar_error, PAIR, choice, value)

    def test_drawn(self):
        draw = random.Random(8)
        for house in drawn_houses(8, 100, most=12):
            rooms, hands = len(house[0]), len(house[1])
            for choice in choices(draw, house, 4):
                row = tuple(draw.randrange(rooms) for _ in range(draw.randint(1, 4)))
                self.agrees(told.bar_error, bar_error, house, choice, ("ring", row))
                two = (draw.randrange(hands), draw.randrange(hands))
                self.agrees(told.bar_error, bar_error, house, choice, ("room", draw.randrange(rooms)) + two)


class WhatHolds(Case):
    def test_whoever_does_not_rest_comes_together(self):
        draw = random.Random(9)
        for house in drawn_houses(9, 60, most=12):
            standing = start(house)
            for hand in drawn_run(draw, house, standing, 40):
                standing = behind(house, standing, (hand,))
                places = [None if word == "rest" else place for place, word, _ in standing[0]]
                choice = tuple(place if draw.random() < 0.8 else None for place in places)
                self.assertTrue(comes_together(house, tuple(places)))
                self.assertTrue(comes_together(house, choice))

    def test_fewer_hands(self):
        draw = random.Random(10)
        for house in drawn_houses(10, 80, most=8):
            choice = drawn_choice(draw, house)
            if comes_together(house, choice):
                for hand in range(len(choice)):
                    self.assertTrue(comes_together(house, choice[:hand] + (None,) + choice[hand + 1:]))

    def test_one_room_at_most_each(self):
        draw = random.Random(11)
        for house in drawn_houses(11, 200, most=12):
            choice = drawn_choice(draw, house)
            rooms = [held(way, place) for way, place in zip(house[1], choice) if place is not None]
            if all(len(row) < 2 for row in rooms) and len(set(sum(rooms, ()))) == len(sum(rooms, ())):
                if not arcs(house, choice):
                    self.assertTrue(comes_together(house, choice))

    def test_rooms_called_otherwise(self):
        draw = random.Random(12)
        for _ in range(60):
            house = small_house(draw, draw.randint(1, 5))
            names = drawn_names(draw, house)
            choice = drawn_choice(draw, house)
            other = renamed(house, names)
            self.assertEqual(comes_together(house, choice), comes_together(other, choice))
            self.assertEqual(tuple(sorted((names[a], names[b]) for a, b in arcs(house, choice))), arcs(other, choice))

    def test_answers_stay_whatever_is_asked_between(self):
        draw = random.Random(13)
        asked = [(house, drawn_choice(draw, house)) for house in drawn_houses(13, 40, most=12)]
        functions = (apart, arcs, comes_together, order_of, bar)
        ahead = [[function(*pair) for function in functions] for pair in asked]
        again = [[function(*pair) for function in functions] for pair in reversed(asked)]
        self.assertEqual(ahead, again[::-1])


if __name__ == "__main__":
    unittest.main()
