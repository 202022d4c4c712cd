"""Numbers and rounds of rooms: H5 and H6, and what H7 says of them."""

import itertools
import random
import time

from roomways.gates import gated
from roomways.errors import Unfit
from roomways.holds import rings_to_be
from roomways.knownhouses import known, known_names
from roomways.numbers import numbers, numbers_error, room_round, round_error
from roomways.stuckness import is_never_stuck, stuck_ring
from tests import retold_programs as told
from tests.support import (STRANGE, Case, around, drawn_house, drawn_houses, drawn_names, parts, renamed, small_house,
                           stay, variants)

ONCE = (("in", 0), ("in", 1), ("out", 1), ("out", 0))
BACK = (("in", 1), ("in", 0), ("out", 0), ("out", 1))
SHORT = (("in", 0), ("out", 0))
CROSSED, ROW, TABLE = ((None, None), (ONCE, BACK)), known("row", 2), known("table", 3)


def drawn(seed, many):
    """Drawn houses, some of which have numbers."""
    draw = random.Random(seed)
    houses = [small_house(draw, draw.randint(1, 5), draw.randint(1, 6)) for _ in range(many)]
    for _ in range(many):
        ways = [stay(r, draw.choice([k for k in range(6) if k != r]), 1) for r in (draw.randrange(6) for _ in range(5))]
        houses.append(((None,) * 6, tuple(ways)))
    return houses + drawn_houses(seed, many)


class Numbers(Case):
    def check(self, house):
        given, rooms = self.answer(numbers, house), self.answer(room_round, house)
        self.assertEqual([given, rooms].count(None), 1, house)
        if given is None:
            self.assertIsNone(told.round_error(house, rooms), (house, rooms))
            self.tells(None, round_error, house, rooms)
        else:
            self.assertIsNone(told.numbers_error(house, given), (house, given))
            self.tells(None, numbers_error, house, given)
        return given is not None

    def test_ordinary(self):
        for house, wanted in ((ROW, True), (CROSSED, False), (TABLE, False), (known("handed", 3), True),
                              (known("gated", 2), False), (known("meek", 3), True), (((None,), (SHORT,)), True),
                              (((None,) * 6, (SHORT,)), True)):
            self.assertEqual(wanted, self.check(house))
        self.tells((0, 1), numbers, ROW)
        self.assertIn(room_round(CROSSED), ((0, 1), (1, 0)))

    def test_known_houses(self):
        for name in known_names():
            for many in (2, 3, 4, 5):
                self.assertEqual(name not in ("table", "crossed", "gated"), self.check(known(name, many)), name)

    def test_all_six_rooms_in_one_row(self):
        for names in itertools.islice(itertools.permutations(range(6)), 0, 720, 37):
            way = tuple(("in", room) for room in names) + tuple(("out", room) for room in reversed(names))
            house = ((None,) * 6, (way,))
            self.tells(tuple(names.index(room) for room in range(6)), numbers, house)
            back = around(names[-1], (("in", names[0]), ("out", names[0])))
            self.assertFalse(self.check((house[0], (way, back))))

    def test_drawn_houses(self):
        several = []
        for house in drawn(201, 120):
            several.append(self.check(house))
            if len(house[0]) <= 4:
                self.assertEqual(told.has_numbers(house), several[-1], house)
        self.assertGreater(several.count(True), 60)
        self.assertGreater(several.count(False), 60)

    def test_never_stuck_by_numbers(self):
        for house in drawn(202, 80):
            if numbers(house) is not None:
                self.assertNotEqual("hold", (stuck_ring(house) or ("",))[0], house)
                self.assertEqual((), rings_to_be(house))
                self.assertTrue(is_never_stuck(((None,) * len(house[0]), house[1])))
        gate = known("gated", 2)
        self.assertTrue(is_never_stuck(gate))
        self.assertIsNone(numbers(gate))

    def test_gates_keep_numbers(self):
        for house in drawn(203, 60):
            for hands in ((), (0,), tuple(range(len(house[1])))):
                if numbers(house) is not None:
                    try:
                        self.assertTrue(self.check(gated(house, hands)))
                    except Unfit:
                        continue

    def test_rooms_called_otherwise(self):
        draw = random.Random(204)
        for house in drawn(205, 60):
            names = drawn_names(draw, house)
            other = renamed(house, names)
            self.assertEqual(self.check(house), self.check(other))
            if numbers(house) is None:
                self.tells(None, round_error, other, tuple(names[room] for room in room_round(house)))
            else:
                given = numbers(house)
                self.tells(None, numbers_error, other, tuple(given[names.index(r)] for r in range(len(names))))

    def test_great_houses(self):
        draw = random.Random(206)
        began = time.time()
        for _ in range(40):
            house = drawn_house(draw, hands=5, many=6)
            self.check(house)
        self.assertLess(time.time() - began, 10)


class NumbersErrors(Case):
    def test_each_word(self):
        deep = ((None,) * 3, (SHORT, (("in", 0), ("in", 1), ("in", 2), ("out", 2), ("out", 1), ("out", 0))))
        for house, value, wanted in (
                (ROW, (0, 1), None), (ROW, (1, 0), ("step", 0, 1)), (ROW, (0, 0), ("step", 0, 1)),
                (ROW, (0, 2), "form"), (ROW, [0, 1], "form"), (ROW, (0, True), "form"), (ROW, (False, 1), "form"),
                (ROW, (0,), "form"), (ROW, (0, 1, 1), "form"), (ROW, (), "form"), (ROW, (-1, 0), "form"),
                (CROSSED, (0, 1), ("step", 1, 1)), (CROSSED, (1, 0), ("step", 0, 1)), (deep, (0, 1, 2), None),
                (deep, (0, 2, 1), ("step", 1, 2)), (deep, (1, 0, 2), ("step", 1, 1)),
                (deep, (2, 2, 2), ("step", 1, 1)), (deep, (1, 2, 1), ("step", 1, 2)),
                (((None,) * 2, (SHORT,)), (1, 1), None), (((None,), (SHORT,)), (0,), None),
                (((None,), (SHORT,)), (1,), "form")):
            self.tells(wanted, numbers_error, house, value)
            self.assertEqual(wanted, told.numbers_error(house, value))

    def test_all_values(self):
        for house in drawn(207, 12):
            many = len(house[0])
            if many <= 4:
                for value in itertools.product(range(many + 1), repeat=many):
                    self.agrees(told.numbers_error, numbers_error, house, value)

    def test_strange_values(self):
        for value in STRANGE:
            for house in (ROW, CROSSED, known("handed", 3), ((None,), (SHORT,))):
                self.agrees(told.numbers_error, numbers_error, house, value)
                self.agrees(told.round_error, round_error, house, value)
        for house in (ROW, known("handed", 4)):
            for path in parts(numbers(house)):
                for value in variants(numbers(house), path):
                    self.agrees(told.numbers_error, numbers_error, house, value)


class RoundErrors(Case):
    def test_each_word(self):
        for house, value, wanted in (
                (CROSSED, (0, 1), None), (CROSSED, (1, 0), None), (CROSSED, (0,), "form"), (CROSSED, (0, 0), "form"),
                (CROSSED, (0, 2), "form"), (CROSSED, [0, 1], "form"), (CROSSED, (), "form"),
                (CROSSED, (0, 1, 0), "form"), (CROSSED, (0, True), "form"), (CROSSED, (False, 1), "form"),
                (ROW, (0, 1), ("pair", 0)), (ROW, (1, 0), ("pair", 1)), (TABLE, (0, 1, 2), None),
                (TABLE, (1, 2, 0), None), (TABLE, (0, 2, 1), ("pair", 0)), (TABLE, (0, 1), ("pair", 0)),
                (TABLE, (1, 0), ("pair", 1)), (((None,), (SHORT,)), (0,), "form")):
            self.tells(wanted, round_error, house, value)
            self.assertEqual(wanted, told.round_error(house, value))

    def test_all_values(self):
        for house in drawn(208, 12):
            for many in range(5):
                for value in itertools.product(range(len(house[0]) + 1), repeat=many) if len(house[0]) <= 4 else ():
                    self.agrees(told.round_error, round_error, house, value)

    def test_parts_changed(self):
        for house in (CROSSED, TABLE, known("table", 5)):
            for path in parts(room_round(house)):
                for value in variants(room_round(house), path):
                    self.agrees(told.round_error, round_error, house, value)
