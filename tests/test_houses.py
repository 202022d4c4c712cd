"""Doors and houses: A4, A6."""

import random
import unittest

from roomways.houses import door_error, house_error, users
from tests import retold
from tests.support import STRANGE, Case, changed, drawn_door, drawn_house, drawn_houses, parts, shape, variants

SHORT = (("in", 0), ("out", 0))
ONCE = (("in", 0), ("in", 1), ("out", 1), ("out", 0))
EVEN = ((("-", "even"), ("even", "-")), ((1,), (0,)))
OVER = ((("-", "stand"), ("bow", "-")), ((1,), (0,)))
THREE = (
    (("-", "even", "bow"), ("even", "-", "stand"), ("stand", "bow", "-")),
    ((1, 2), (2, 0), (1, 0)),
)
ALONE = ((("-",),), ((),))


class DoorError(Case):
    def test_right_ones(self):
        self.tells(None, door_error, 1, ALONE)
        self.tells(None, door_error, 2, EVEN)
        self.tells(None, door_error, 2, OVER)
        self.tells(None, door_error, 3, THREE)
        draw = random.Random(5)
        for hands in (1, 2, 3, 4, 5) * 12:
            door = drawn_door(draw, hands)
            for others in range(1, 6):
                self.tells(None if others == hands else "rows", door_error, others, door)

    def test_form(self):
        table, orders = OVER
        for value in (None, (), (table,), (table, orders, ()), [table, orders], (list(table), orders),
                      (table, list(orders)), ("", ""), (table, None), (None, orders), {0: table, 1: orders}):
            self.tells("form", door_error, 2, value)

    def test_rows(self):
        for table in ((), OVER[0][:1], OVER[0] + OVER[0][:1], THREE[0]):
            self.tells("rows", door_error, 2, (table, OVER[1]))

    def test_row(self):
        for row in (["-", "stand"], ("-",), ("-", "stand", "stand"), ("stand", "-"), ("-", "-"), ("stand", "bow"),
                    ("-", "Stand"), ("-", "s"), ("-", None), ("-", ("bow",)), ("-", ["bow"]), "-s", (), None,
                    (True, "bow"), ("-", True)):
            self.tells(("row", 0), door_error, 2, ((row, ("bow", "-")), OVER[1]))
            self.tells(("row", 0), door_error, 2, ((row, ()), OVER[1]))
        self.tells(("row", 1), door_error, 2, ((("-", "bow"), ("-", "bow")), OVER[1]))
        self.tells(("row", 2), door_error, 3, changed(THREE, (0, 2), ("stand", "-", "bow")))

    def test_even(self):
        self.tells(("even", 0, 1), door_error, 2, ((("-", "even"), ("stand", "-")), OVER[1]))
        self.tells(("even", 0, 1), door_error, 2, ((("-", "bow"), ("even", "-")), OVER[1]))
        self.tells(("even", 0, 2), door_error, 3, changed(THREE, (0, 0, 2), "even"))
        self.tells(("even", 0, 2), door_error, 3, changed(THREE, (0, 2, 0), "even"))
        self.tells(("even", 1, 2), door_error, 3, changed(THREE, (0, 2, 1), "even"))
        both = changed(changed(THREE, (0, 2, 0), "even"), (0, 1, 0), "bow")
        self.tells(("even", 0, 1), door_error, 3, both)
        self.tells(("even", 0, 2), door_error, 3, changed(changed(THREE, (0, 2, 1), "even"), (0, 0, 2), "even"))

    def test_which_even_pair_is_the_first(self):
        rows = [["-" if i == j else "bow" for j in range(5)] for i in range(5)]
        rows[1][2] = rows[4][0] = "even"
        door = (tuple(map(tuple, rows)), drawn_door(random.Random(1), 5)[1])
        self.tells(("even", 0, 4), door_error, 5, door)

    def test_orders(self):
        for orders in ((), OVER[1][:1], OVER[1] + OVER[1], OVER[1] + ((),)):
            self.tells("orders", door_error, 2, (OVER[0], orders))
        self.tells("orders", door_error, 1, (ALONE[0], ()))

    def test_order(self):
        for order in ((), (0,), (2,), (1, 1), (1, 0), [1], (True,), (None,), ("1",), "1", (-1,), None, 1, {1: 1},
                      ((1,),), ([],), ({},), (1, None)):
            self.tells(("order", 0), door_error, 2, (OVER[0], (order, (0,))))
            self.tells(("order", 0), door_error, 2, (OVER[0], (order, ())))
        for order in ((1,), (False,), (), (0, 0), (0, 1)):
            self.tells(("order", 1), door_error, 2, (OVER[0], ((1,), order)))
        for order in ((0, 0), (0, 2), (0, True), (1, 0, 1), (0,), (0, 1, 2), (3, 0), (0, "1"), (0, [])):
            self.tells(("order", 2), door_error, 3, changed(THREE, (1, 2), order))
        self.tells(("order", 0), door_error, 1, (ALONE[0], ((0,),)))

    def test_the_first_of_several_faults(self):
        bad_even = ((("-", "even"), ("bow", "-")), ((),))
        self.tells(("even", 0, 1), door_error, 2, bad_even)
        self.tells(("row", 1), door_error, 2, ((("-", "even"), ("bow", "bow")), ()))
        self.tells("rows", door_error, 2, ((("?", "even"),), ()))
        self.tells("orders", door_error, 2, (OVER[0], (None,)))

    def test_strange_values_at_each_depth(self):
        for value in STRANGE:
            for hands in (1, 2, 5):
                self.agrees(retold.door_error, door_error, hands, value)
        for hands, door in ((1, ALONE), (2, EVEN), (3, THREE)):
            for path in parts(door):
                for value in variants(door, path):
                    self.agrees(retold.door_error, door_error, hands, value)


class HouseError(Case):
    def test_form(self):
        for value in (None, (), ((None,),), ((None,), (SHORT,), ()), [(None,), (SHORT,)], ([None], (SHORT,)),
                      ((None,), [SHORT]), "plain", ("a", "b"), {0: (None,), 1: (SHORT,)}, (None, (SHORT,)),
                      ((None,), 1)):
            self.tells("form", house_error, value)

    def test_numbers_of_rooms_and_hands(self):
        for many in range(9):
            self.tells(None if 1 <= many <= 6 else "rooms", house_error, ((None,) * many, (SHORT,)))
            self.tells(None if 1 <= many <= 5 else "hands", house_error, ((None,), (SHORT,) * many))
        self.tells("rooms", house_error, ((), ()))
        self.tells("rooms", house_error, ((7,) * 7, (None,) * 6))
        self.tells("hands", house_error, ((7,), (None,) * 6))

    def test_one_hand_with_a_door(self):
        self.tells(None, house_error, ((ALONE,), (SHORT,)))
        self.tells(("room", 0, "rows"), house_error, ((EVEN,), (SHORT,)))
        self.tells(("room", 0, "rows"), house_error, ((ALONE,), (SHORT, SHORT)))

    def test_rooms(self):
        self.tells(None, house_error, ((None, OVER, EVEN), (SHORT, ONCE)))
        self.tells(("room", 1, "rows"), house_error, ((None, THREE, 0), (SHORT, None)))
        self.tells(("room", 0, "form"), house_error, ((False, OVER), (SHORT, ONCE)))
        self.tells(("room", 0, "form"), house_error, (("plain",), (SHORT,)))
        self.tells(("room", 0, "form"), house_error, ((((), (), ()),), (SHORT,)))
        self.tells(("room", 2, ("order", 1)), house_error, ((None, OVER, (OVER[0], ((1,), (1,)))), (SHORT, ONCE)))
        self.tells(("room", 1, ("even", 0, 1)), house_error, ((EVEN, ((("-", "even"), ("bow", "-")), ())), (ONCE, 1)))

    def test_ways(self):
        self.tells(("way", 1, "form"), house_error, ((None,), (SHORT, list(SHORT))))
        self.tells(("way", 0, ("step", 1)), house_error, ((None,), (ONCE, ())))
        self.tells(("way", 1, "held"), house_error, ((None, None), (ONCE, ONCE[:3])))
        self.tells(("way", 1, ("in", 1)), house_error, ((None,), (SHORT, (("in", 0), ("in", 0)))))
        self.tells(("way", 1, ("out", 0)), house_error, ((None,), (SHORT, SHORT[::-1])))
        self.tells(("way", 0, "form"), house_error, ((None,), (SHORT * 13,)))
        self.tells(None, house_error, ((None,), (SHORT * 12,)))

    def test_strange_values_at_each_depth(self):
        for value in STRANGE:
            self.agrees(retold.house_error, house_error, value)
        for house in (((ALONE,), (SHORT,)), ((None, OVER), (SHORT, ONCE)), ((THREE, None), (SHORT, ONCE, SHORT))):
            for path in parts(house):
                for value in variants(house, path):
                    self.agrees(retold.house_error, house_error, value)

    def test_drawn_houses(self):
        for house in drawn_houses(6, 90):
            self.tells(None, house_error, house)

    def test_two_faults(self):
        draw = random.Random(7)
        for k in range(600):
            house = drawn_house(draw, hands=k % 3 + 1, many=2, most=6)
            for _ in range(2):
                house = draw.choice(variants(house, draw.choice(parts(house))))
            self.agrees(retold.house_error, house_error, house)

    def test_bools_and_integers_are_told_apart_in_any_order(self):
        ones, trues = (("in", 1), ("out", 1)), (("in", True), ("out", True))
        for _ in range(2):
            self.tells(None, house_error, ((None, None), (ones,)))
            self.tells(("way", 0, ("step", 0)), house_error, ((None, None), (trues,)))
            self.tells(None, house_error, ((OVER, None), (SHORT, ones)))
            self.tells(("room", 0, ("order", 0)), house_error, (((OVER[0], ((True,), (0,))), None), (SHORT, ones)))

    def test_lists_in_a_value_stay_as_they_are(self):
        value = ((None,), ([["in", 0]],))
        ahead = shape(value)
        self.tells(("way", 0, "form"), house_error, value)
        self.assertEqual(ahead, shape(value))


class Users(Case):
    def test_by_hand(self):
        house = ((None, None, None), (SHORT, ONCE, (("in", 1), ("out", 1)), ONCE))
        self.tells((0, 1, 3), users, house, 0)
        self.tells((1, 2, 3), users, house, 1)
        self.tells((), users, house, 2)
        self.tells((0,), users, ((ALONE,), (SHORT,)), 0)

    def test_drawn_houses(self):
        for house in drawn_houses(8, 60, most=6):
            for room in range(len(house[0])):
                self.agrees(retold.users, users, house, room)


if __name__ == "__main__":
    unittest.main()
