"""Events and orders of time: D4, and what D6 says of them."""

import itertools
import random
import unittest

from roomways.doors import wait_rings
from roomways.times import events, order_of_time, time_error
from tests import retold_rings as told
from tests.support import STRANGE, Case, door_by, drawn_door, drawn_names, drawn_order, parts, renamed, variants

SHORT = (("in", 0), ("out", 0))
PROUD = ((door_by(("-s", "s-")),), (SHORT,) * 2)
LEVEL = ((door_by(("-e", "e-")),), (SHORT,) * 2)
EVENS = ((door_by(("-ee", "e-e", "ee-"))[0], ((2, 1), (0, 2), (1, 0))),)
THREE = (EVENS, (SHORT,) * 3)
MIXED = (((door_by(("-es", "e-e", "se-"))[0], ((2, 1), (0, 2), (1, 0))),), (SHORT,) * 3)


def house_of(hands, signs, orders):
    """The house of one door the words of which, for each two hands, are these signs."""
    rows = [["-"] * hands for _ in range(hands)]
    for (one, other), (to, back) in zip(itertools.combinations(range(hands), 2), signs):
        rows[one][other], rows[other][one] = to, back
    return (((door_by(["".join(row) for row in rows])[0], tuple(orders)),), (SHORT,) * hands)


def waiting_door(draw, hands):
    """A drawn door at which none bows, or few do."""
    signs = [draw.choice(("ee", "ee", "ss", "ss", "sb", "bs")) for _ in itertools.combinations(range(hands), 2)]
    return house_of(hands, signs, [drawn_order(draw, hands, hand) for hand in range(hands)])


class Times(Case):
    def check(self, house, room, ring):
        """What is told of a wait ring; returns whether it has an order of time."""
        self.agrees(told.events, events, house, room, ring)
        order = self.answer(order_of_time, house, room, ring)
        self.assertEqual(told.has_order(house, room, ring), order is not None, (house, ring))
        if order is not None:
            self.assertIsNone(told.time_error(house, room, ring, order), (house, ring))
            self.tells(None, time_error, house, room, ring, order)
        return order is not None

    def test_two(self):
        self.tells((("raise", 0), ("raise", 1)), events, PROUD, 0, (0, 1))
        self.assertTrue(self.check(PROUD, 0, (0, 1)))
        self.tells(None, order_of_time, LEVEL, 0, (0, 1))
        self.tells((("hand", 0, 1), ("hand", 1, 0), ("raise", 0), ("raise", 1)), events, LEVEL, 0, (0, 1))

    def test_all_rings_of_three_by_all_orders(self):
        seen = {True: 0, False: 0}
        orders = list(itertools.product(*[list(itertools.permutations([0, 1, 2][:k] + [0, 1, 2][k + 1:]))
                                          for k in range(3)]))
        signs_and_orders = itertools.product(itertools.product(("ee", "ss", "sb"), repeat=3), orders)
        for number, (signs, order) in enumerate(signs_and_orders):
            house = house_of(3, signs, order)
            for ring in wait_rings(house, 0):
                has = self.check(house, 0, ring)
                if signs.count("ee") < 3 or number % 4 == 0:
                    self.assertEqual(told.has_order_by_all(house, 0, ring), has, (house, ring))
                seen[has] += 1
        self.assertGreater(min(seen.values()), 20, seen)

    def test_drawn_rings_of_four_and_five(self):
        draw = random.Random(31)
        seen = {True: 0, False: 0}
        for number in range(60):
            house = waiting_door(draw, 4 + number % 2)
            rings = list(wait_rings(house, 0))
            for ring in draw.sample(rings, min(12, len(rings))):
                seen[self.check(house, 0, ring)] += 1
        self.assertGreater(min(seen.values()), 80, seen)

    def test_rings_within_larger_houses(self):
        draw = random.Random(32)
        for _ in range(60):
            room = draw.randrange(3)
            door = waiting_door(draw, 5)[0][0]
            rooms = tuple(door if k == room else drawn_door(draw, 5) for k in range(3))
            ways = tuple((("in", room), ("out", room)) if draw.random() < 0.8 else
                         (("in", (room + 1) % 3), ("out", (room + 1) % 3)) for _ in range(5))
            for ring in wait_rings((rooms, ways), room)[:10]:
                self.check((rooms, ways), room, ring)


class TimeErrors(Case):
    TALE = (("raise", 0), ("raise", 1), ("raise", 2), ("hand", 1, 0), ("hand", 0, 1), ("hand", 0, 2), ("hand", 2, 0),
            ("hand", 2, 1), ("hand", 1, 2), ("look", 0, 2), ("look", 1, 0), ("look", 2, 1))

    def test_the_first_of_several(self):
        tale = self.TALE
        self.tells(None, time_error, THREE, 0, (0, 1, 2), tale)
        self.tells("form", time_error, THREE, 0, (0, 1, 2), [None])
        self.tells(("event", 0), time_error, THREE, 0, (0, 1, 2), (None,) + tale)
        self.tells(("event", 12), time_error, THREE, 0, (0, 1, 2), tale + tale)
        self.tells(("event", 11), time_error, THREE, 0, (0, 1, 2), tale[:11] + (("look", 2, 0),))
        self.tells(("event", 1), time_error, THREE, 0, (0, 1, 2), (("raise", 2), ("raise", True)))
        self.tells(("event", 2), time_error, THREE, 0, (0, 1, 2), (("raise", 2), ("raise", 0), ("hand", False, 1)))
        self.tells(("lacks", ("hand", 0, 1)), time_error, THREE, 0, (0, 1, 2), ())
        self.tells(("lacks", ("hand", 2, 1)), time_error, THREE, 0, (0, 1, 2), tale[9:] + tale[:7] + tale[8:9])
        self.tells(("lacks", ("raise", 0)), time_error, THREE, 0, (0, 1, 2), tale[1:])
        self.tells(("own", 0), time_error, THREE, 0, (0, 1, 2), tale[::-1])
        self.tells(("own", 4), time_error, THREE, 0, (0, 1, 2), tale[:4] + (tale[5], tale[4]) + tale[6:])
        swapped = tale[:3] + (tale[4], tale[3]) + tale[5:]
        self.tells(("look", 10), time_error, THREE, 0, (0, 1, 2), swapped)
        late = tale[:7] + (tale[9],) + tale[7:9] + tale[10:]
        self.tells(("look", 7), time_error, THREE, 0, (0, 1, 2), late)

    def test_a_token_alone(self):
        self.tells(("token", 0), time_error, LEVEL, 0, (0, 1),
                   (("raise", 0), ("raise", 1), ("hand", 0, 1), ("hand", 1, 0)))
        self.tells(("token", 1), time_error, LEVEL, 0, (0, 1),
                   (("raise", 0), ("raise", 1), ("hand", 1, 0), ("hand", 0, 1)))
        house = house_of(3, ("ee", "ee", "ss"), ((1, 2), (0, 2), (1, 0)))
        value = (("raise", 2), ("look", 2, 1), ("raise", 0), ("raise", 1), ("hand", 0, 1), ("hand", 0, 2),
                 ("hand", 1, 0), ("hand", 2, 0), ("look", 1, 0))
        self.agrees(told.time_error, time_error, house, 0, (0, 1, 2), value)

    def test_looks_at_hands_that_are_not_even(self):
        proud = house_of(3, ("ss", "ss", "ss"), ((2, 1), (0, 2), (1, 0)))
        raised = tuple(("raise", k) for k in range(3))
        looked = (("look", 0, 2), ("look", 1, 0), ("look", 2, 1))
        self.tells(("look", 3), time_error, proud, 0, (0, 1, 2), raised + looked)
        self.tells(("look", 4), time_error, proud, 0, (0, 1, 2), (raised[0], looked[0]) + raised[1:] + looked[1:])
        self.tells(None, order_of_time, proud, 0, (0, 1, 2))
        self.tells(None, time_error, proud, 0, (0, 2), (("raise", 2), ("raise", 0)))

    def test_all_orders_of_small_rings(self):
        for house, ring in ((PROUD, (0, 1)), (LEVEL, (0, 1)), (THREE, (0, 2)), (MIXED, (0, 2)),
                            (house_of(3, ("ss", "ss", "ss"), ((2, 1), (0, 2), (1, 0))), (0, 2, 1))):
            for many in range(4):
                for value in itertools.permutations(told.events(house, 0, ring), many):
                    self.agrees(told.time_error, time_error, house, 0, ring, value)

    def test_woven_and_shuffled(self):
        draw = random.Random(33)
        seen = {}
        for _ in range(120):
            house = waiting_door(draw, draw.choice((3, 3, 4)))
            rings = wait_rings(house, 0)
            if not rings:
                continue
            ring = draw.choice(rings)
            for _ in range(8):
                left, value = [told.own(house, 0, ring, i) for i in ring], []
                while any(left):
                    value.append(draw.choice([row for row in left if row]).pop(0))
                if draw.random() < 0.2:
                    draw.shuffle(value)
                value = tuple(value)
                self.agrees(told.time_error, time_error, house, 0, ring, value)
                error = time_error(house, 0, ring, value)
                seen[error and error[0]] = seen.get(error and error[0], 0) + 1
        self.assertGreater(min(seen[word] for word in (None, "own", "look", "token")), 5, seen)

    def test_strange_values(self):
        for value in STRANGE:
            self.agrees(told.time_error, time_error, THREE, 0, (0, 1, 2), value)
            self.agrees(told.time_error, time_error, PROUD, 0, (0, 1), value)
        for path in parts(self.TALE):
            for value in variants(self.TALE, path)[::3]:
                self.agrees(told.time_error, time_error, THREE, 0, (0, 1, 2), value)


class WhatHolds(Case):
    def test_two_have_one_exactly_if_both_stand(self):
        draw = random.Random(34)
        for _ in range(60):
            house = waiting_door(draw, draw.randint(2, 5))
            for ring in wait_rings(house, 0):
                if len(ring) == 2:
                    both = house[0][0][0][ring[0]][ring[1]] == "stand"
                    self.assertEqual(both, order_of_time(house, 0, ring) is not None)

    def test_three_even_ones_always_have_one(self):
        draw = random.Random(35)
        for _ in range(100):
            house = waiting_door(draw, draw.randint(3, 5))
            for ring in wait_rings(house, 0):
                if len(ring) == 3 and all(told.even(house, 0, i, j) for i in ring for j in ring if i != j):
                    self.assertIsNotNone(order_of_time(house, 0, ring))

    def test_where_no_two_are_even_a_row_is_all(self):
        draw = random.Random(36)
        seen = {True: 0, False: 0}
        for _ in range(60):
            hands = draw.randint(2, 4)
            signs = [draw.choice(("ss", "sb", "bs")) for _ in itertools.combinations(range(hands), 2)]
            house = house_of(hands, signs, [drawn_order(draw, hands, hand) for hand in range(hands)])
            for ring in wait_rings(house, 0):
                looks = [event[1:] for event in events(house, 0, ring) if event[0] == "look"]
                rows = itertools.permutations(ring)
                has = any(all(row.index(i) < row.index(j) for i, j in looks) for row in rows)
                self.assertEqual(has, order_of_time(house, 0, ring) is not None)
                seen[has] += 1
        self.assertGreater(min(seen.values()), 10, seen)

    def test_other_hands_are_nothing_to_it(self):
        draw = random.Random(37)
        for _ in range(40):
            house = waiting_door(draw, 4)
            (table, orders), ways = house[0][0], house[1]
            rows = [list(row) for row in table]
            for one in range(3):
                rows[one][3], rows[3][one] = draw.choice((("even", "even"), ("bow", "stand"), ("stand", "bow")))
            other = (((tuple(map(tuple, rows)), orders),), ways)
            for ring in wait_rings(house, 0):
                if 3 not in ring:
                    self.assertEqual(events(house, 0, ring), events(other, 0, ring))
                    has = order_of_time(house, 0, ring) is None
                    self.assertEqual(has, order_of_time(other, 0, ring) is None)

    def test_rooms_called_otherwise(self):
        draw = random.Random(38)
        for _ in range(40):
            door = waiting_door(draw, 3)[0][0]
            house = ((door, None, drawn_door(draw, 3)), ((("in", 0), ("in", 1), ("out", 1), ("out", 0)),) * 3)
            names = drawn_names(draw, house)
            for ring in wait_rings(house, 0):
                for function in (events, order_of_time):
                    self.assertEqual(function(house, 0, ring), function(renamed(house, names), names[0], ring))


if __name__ == "__main__":
    unittest.main()
