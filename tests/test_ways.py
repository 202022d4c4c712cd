"""Ways: A5 and what A9 says of them."""

import random
import unittest

from roomways.ways import entries, held, way_error, wish
from tests import retold
from tests.support import STRANGE, Case, changed, drawn_way, parts, shape, variants

SHORT = (("in", 0), ("out", 0))
ONCE = (("in", 0), ("in", 1), ("out", 1), ("out", 0))
TWICE = (("in", 0), ("in", 1), ("out", 1), ("in", 1), ("out", 1), ("out", 0), ("in", 2), ("out", 2))


def drawn_ways(seed, many):
    draw = random.Random(seed)
    return [(rooms, drawn_way(draw, rooms)) for rooms in [k % 6 + 1 for k in range(many)]]


class WayError(Case):
    def test_lengths(self):
        for many in (1, 2, 3, 11, 12):
            self.tells(None, way_error, 1, SHORT * many)
        for value in ((), SHORT[:1], SHORT * 12 + SHORT[:1], SHORT * 13, SHORT * 4500):
            self.tells("form", way_error, 1, value)
        self.tells(None, way_error, 6, tuple(("in", r) for r in range(6)) + tuple(("out", 5 - r) for r in range(6)))

    def test_only_tuples(self):
        for value in (list(SHORT), dict(enumerate(SHORT)), "in", "way +0 -0", None, 2, True, (("in", 0),)):
            self.tells("form", way_error, 1, value)
        self.tells(("step", 0), way_error, 1, (["in", 0], ("out", 0)))
        self.tells(("step", 1), way_error, 1, (("in", 0), ["out", 0]))
        self.tells(("step", 0), way_error, 1, ("in", "out"))

    def test_rooms(self):
        for many in range(1, 7):
            for room in range(-1, 8):
                wanted = None if 0 <= room < many else ("step", 0)
                self.tells(wanted, way_error, many, (("in", room), ("out", room)))

    def test_bools_are_no_rooms(self):
        self.tells(None, way_error, 2, (("in", 1), ("out", 1)))
        self.tells(("step", 0), way_error, 2, (("in", True), ("out", True)))
        self.tells(("step", 1), way_error, 2, (("in", 1), ("out", True)))
        self.tells(("step", 0), way_error, 2, (("in", False), ("out", False)))
        self.tells(("step", 1), way_error, 2, (("in", 0), ("out", False)))
        self.tells(None, way_error, 2, (("in", 0), ("out", 0)))

    def test_words(self):
        for word in ("", "In", "IN", "i", "out ", "on", None, 0, ("in",), ["in"], {"in": 0}):
            self.tells(("step", 0), way_error, 1, ((word, 0), ("out", 0)))
            self.tells(("step", 1), way_error, 1, (("in", 0), (word, 0)))

    def test_steps_are_pairs(self):
        for step in ((), ("in",), ("in", 0, 0), (0, "in"), "in0", None, ("in", (0,)), ("in", "0"), ("in", None)):
            self.tells(("step", 2), way_error, 1, SHORT + (step, ("out", 0)))

    def test_each_order_of_faults(self):
        self.tells(("step", 3), way_error, 2, (("out", 0), ("in", 0), ("in", 0), ("in", 2)))
        self.tells(("step", 2), way_error, 2, (("in", 0), ("in", 0), ("in", 9), ("on", 0)))
        self.tells(("in", 1), way_error, 2, (("in", 0), ("in", 0), ("out", 1), ("in", 0)))
        self.tells(("out", 1), way_error, 2, (("in", 0), ("out", 1), ("in", 0), ("in", 0)))
        self.tells(("out", 0), way_error, 2, (("out", 0), ("in", 0)))
        self.tells(("out", 2), way_error, 1, SHORT + (("out", 0), ("in", 0)))
        self.tells("form", way_error, 1, (("on", 0),) * 25)

    def test_nesting(self):
        self.tells(("out", 2), way_error, 2, (("in", 0), ("in", 1), ("out", 0), ("out", 1)))
        self.tells(("in", 2), way_error, 2, (("in", 0), ("in", 1), ("in", 0), ("out", 0)))
        self.tells("held", way_error, 2, (("in", 0), ("in", 1), ("out", 1)))
        self.tells("held", way_error, 2, (("in", 0), ("in", 1)))
        self.tells("held", way_error, 2, SHORT + (("in", 1),))
        self.tells(None, way_error, 2, (("in", 0), ("in", 1), ("out", 1), ("in", 1), ("out", 1), ("out", 0)))
        self.tells(None, way_error, 3, TWICE)

    def test_strange_values_at_each_depth(self):
        for value in STRANGE:
            self.agrees(retold.way_error, way_error, 3, value)
        for way in (SHORT, ONCE, TWICE):
            for path in parts(way):
                for value in variants(way, path):
                    self.agrees(retold.way_error, way_error, 3, value)

    def test_two_steps_changed(self):
        steps = [(word, room) for word in ("in", "out") for room in range(3)]
        for one in range(len(TWICE)):
            for other in range(len(TWICE)):
                for step in steps:
                    value = changed(changed(TWICE, (one,), step), (other,), steps[(one + other) % 6])
                    self.agrees(retold.way_error, way_error, 2 + other % 2, value)

    def test_lists_in_a_value_stay_as_they_are(self):
        value = (["in", 0], {"out": [0]}, [("in", 0)])
        ahead = shape(value)
        self.tells(("step", 0), way_error, 1, value)
        self.assertEqual(ahead, shape(value))


class Places(Case):
    def test_by_hand(self):
        self.assertEqual([(), (0,), (0, 1), (0,)], [held(ONCE, place) for place in range(4)])
        self.tells((0, 1), held, ONCE, 2)
        self.tells((2,), held, TWICE, 7)
        self.tells((3, 1, 2), held, (("in", 3), ("in", 1), ("in", 2), ("out", 2), ("out", 1), ("out", 3)), 3)
        self.tells(0, wish, ONCE, 0)
        self.tells(1, wish, ONCE, 1)
        self.tells(None, wish, ONCE, 2)
        self.tells(None, wish, SHORT, 1)
        self.tells((0, 1), entries, ONCE)
        self.tells((0, 1, 3, 6), entries, TWICE)
        self.tells((0,), entries, SHORT)

    def test_drawn_ways(self):
        for many, way in drawn_ways(1, 120):
            self.tells(None, way_error, many, way)
            self.agrees(retold.entries, entries, way)
            for place in range(len(way)):
                self.agrees(retold.held, held, way, place)
                self.agrees(retold.wish, wish, way, place)

    def test_longest_way(self):
        self.tells(tuple(range(0, 24, 2)), entries, SHORT * 12)
        self.tells((0,), held, SHORT * 12, 23)
        self.tells((), held, SHORT * 12, 22)

    def test_from_place_to_place(self):
        for many, way in drawn_ways(2, 60):
            self.assertEqual((), held(way, 0))
            for place in range(len(way) - 1):
                here, there = held(way, place), held(way, place + 1)
                room = wish(way, place)
                self.assertEqual(there, here[:-1] if room is None else here + (room,))
                self.assertEqual(len(there), len(set(there)))
            self.assertEqual(2 * len(entries(way)), len(way))

    def test_held_all_the_way(self):
        for many, way in drawn_ways(3, 60):
            for room in range(many):
                if all(room in held(way, place) for place in range(1, len(way))):
                    self.assertEqual((("in", room), ("out", room)), (way[0], way[-1]))

    def test_without_some_room(self):
        for many, way in drawn_ways(4, 60):
            for room in range(many):
                left = tuple(step for step in way if step[1] != room)
                if len(left) >= 2:
                    self.tells(None, way_error, many, left)


if __name__ == "__main__":
    unittest.main()
