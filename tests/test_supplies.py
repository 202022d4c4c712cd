"""Supplies: J1 to J4, and what J5 says of them."""

import itertools
import random
import time

from roomways.errors import TooMany
from roomways.houses import house_error
from roomways.knownhouses import known
from roomways.numbers import numbers
from roomways.stuckness import is_never_stuck, stuck_ring
from roomways.supplies import fewest_hands, supply_house, supply_ring, supply_ring_error
from tests import retold
from tests import retold_programs as told
from tests import retold_rings as rings
from tests.goingthrough import Through, TooWide
from tests.support import STRANGE, Case, around, drawn_way, parts, stay, staying_way, variants

ONCE = (("in", 0), ("in", 1), ("out", 1), ("out", 0))
BACK = (("in", 1), ("in", 0), ("out", 0), ("out", 1))
SHORT = (("in", 0), ("out", 0))
KNOT = ONCE + BACK
SECOND, THIRD = known("table", 3)[1][1:]
LED = known("gated", 2)[1]
LATE = (("in", 0), ("in", 1), ("out", 1), ("in", 2), ("out", 2), ("out", 0))
EARLY = (("in", 1), ("in", 0), ("out", 0), ("in", 2), ("in", 0), ("out", 0), ("out", 2), ("out", 1))
FREE = (None, None)
LIMITS = (None, None, None, 1, 1, 2, 3, 10 ** 300)


def drawn(draw, rooms=None, kinds=None, most=8):
    """The arguments of a drawn supply."""
    rooms = rooms or draw.randint(1, 6)
    kinds = kinds or draw.randint(1, 5)
    make = draw.choice((drawn_way, staying_way)) if rooms > 1 else drawn_way
    ways = tuple(make(draw, rooms, draw.randint(3, most)) for _ in range(kinds))
    return rooms, ways, tuple(draw.choice(LIMITS) for _ in ways)


class Supplies(Case):
    def check(self, many, kinds, limits):
        self.agrees(told.supply_ring, supply_ring, many, kinds, limits)
        self.agrees(told.fewest_hands, fewest_hands, many, kinds, limits)
        if self.ask(supply_ring, many, kinds, limits)[0] == "raises":
            return "many"
        ring = supply_ring(many, kinds, limits)
        if ring is not None:
            self.tells(None, supply_ring_error, many, kinds, limits, ring)
            self.tells(len(ring), fewest_hands, many, kinds, limits)
            self.assertLessEqual(len(ring), many)
        return ring

    def test_ordinary(self):
        for many, kinds, limits, wanted in (
                (2, (ONCE, BACK), FREE, ((0, 1), (1, 1))), (2, (ONCE, ONCE), FREE, None), (2, (ONCE,), (None,), None),
                (2, (KNOT,), (None,), ((0, 1), (0, 5))), (2, (KNOT,), (1,), None), (2, (KNOT,), (2,), ((0, 1), (0, 5))),
                (2, (KNOT, BACK), (1, 1), ((0, 1), (1, 1))), (2, (KNOT, BACK), FREE, ((0, 1), (0, 5))),
                (3, (ONCE, SECOND, THIRD), (1, None, 1), ((0, 1), (1, 1), (2, 1))), (3, (ONCE, SECOND), FREE, None),
                (3, LED, FREE, None), (3, (LED[0], BACK), FREE, ((0, 2), (1, 1))), (1, (SHORT,) * 5, (None,) * 5, None),
                (3, (LATE, EARLY), FREE, ((0, 1), (1, 1))), (6, (ONCE, BACK), (1, 1), ((0, 1), (1, 1)))):
            self.tells(wanted, supply_ring, many, kinds, limits)
            self.check(many, kinds, limits)

    def test_rings_of_all_rooms(self):
        for many in (2, 3, 4, 5, 6):
            ways = tuple((("in", k), ("in", (k + 1) % many), ("out", (k + 1) % many), ("out", k)) for k in range(many))
            if many < 6:
                self.assertEqual(tuple((k, 1) for k in range(many)), self.check(many, ways, (1,) * many))
                self.tells(None, supply_ring, many, ways[1:] or ways, (None,) * len(ways[1:] or ways))
            # One kind goes along all rooms: as many hands of it as there are rooms.
            whole = sum(ways, ())
            self.assertEqual(tuple((0, 4 * k + 1) for k in range(many)), self.check(many, (whole,), (None,)))
            self.assertIsNotNone(self.check(many, (whole,), (many,)))
            self.assertIsNone(self.check(many, (whole,), (many - 1,)))
            self.tells(many, fewest_hands, many, (whole,), (None,))

    def test_least_of_the_fewest(self):
        kinds = (stay(0, 1, 2), stay(1, 0, 3) + stay(1, 2, 1), SHORT)
        self.assertEqual(((0, 1), (1, 1)), self.check(3, kinds, (None,) * 3))
        kinds = ((("in", 1), ("in", 2), ("out", 2), ("out", 1)) + ONCE, stay(2, 0, 1), stay(1, 0, 1))
        self.assertEqual(((0, 5), (2, 1)), self.check(3, kinds, (None,) * 3))
        self.assertEqual(((0, 1), (1, 1), (0, 5)), self.check(3, kinds[:2], FREE))

    def test_just_as_many_and_one_more(self):
        twenty = (stay(0, 1, 10), stay(0, 1, 10), stay(1, 0, 10), stay(1, 0, 10))
        one_more = stay(2, 3, 1) + stay(3, 2, 1)
        for kinds, limits, many in (
                (twenty, (None,) * 4, 400), (twenty + (one_more,), (None,) * 5, 401),
                (twenty + (one_more,), (None,) * 4 + (2,), 401), (twenty + (one_more,), (None,) * 4 + (1,), 400),
                (twenty + (one_more,), (1,) * 5, 400), ((stay(0, 1, 9),) + twenty[1:3] + (stay(1, 0, 11),), (2,) * 4,
                                                        399),
                (twenty[:3] + (stay(1, 0, 11),), (None,) * 4, 420)):
            self.assertEqual(many, len(told.supply_rings_to_be(4, kinds, limits)))
            if many > 400:
                self.raises(TooMany(400), supply_ring, 4, kinds, limits)
                self.raises(TooMany(400), fewest_hands, 4, kinds, limits)
            else:
                self.assertEqual(((0, 1), (2, 1)), self.check(4, kinds, limits))

    def test_refused_by_long_rings_alone(self):
        # Of six rooms one behind another each kind holds each once: the rings have six pairs each.
        whole = sum([(("in", k), ("in", (k + 1) % 6), ("out", (k + 1) % 6), ("out", k)) for k in range(6)], ())
        for kinds, limits in (((whole,) * 5, (None,) * 5), ((whole,) * 3, (2, None, None)), ((whole,) * 5, (2,) * 5)):
            self.raises(TooMany(400), supply_ring, 6, kinds, limits)
            self.raises(TooMany(400), fewest_hands, 6, kinds, limits)
        self.assertEqual(64, len(told.supply_rings_to_be(6, (whole,) * 2, (None,) * 2)))
        self.assertEqual(tuple((0, 4 * k + 1) for k in range(6)), self.check(6, (whole,) * 2, (None,) * 2))
        self.assertEqual(((0, 1), (0, 5), (0, 9), (1, 13), (1, 17), (1, 21)), self.check(6, (whole,) * 2, (3, 3)))
        self.assertIsNone(self.check(6, (whole,) * 5, (1,) * 5))

    def test_drawn_supplies(self):
        draw = random.Random(251)
        seen = []
        for _ in range(500):
            seen.append(self.check(*drawn(draw)))
        self.assertGreater(seen.count(None), 60)
        self.assertGreater(len([ring for ring in seen if ring not in (None, "many")]), 60)
        self.assertGreater(len([ring for ring in seen if ring and ring != "many" and len(ring) > 2]), 2)

    def test_the_last_condition_can_be_left_out(self):
        draw = random.Random(252)
        for _ in range(300):
            many, kinds, limits = drawn(draw)
            almost = told.supply_rings_to_be(many, kinds, limits)
            if len(almost) <= 400:
                ring = supply_ring(many, kinds, limits)
                self.assertEqual(bool(almost), ring is not None)
                if almost:
                    self.assertEqual(len(almost[0]), len(ring))

    def test_by_going_through_all(self):
        draw = random.Random(253)
        seen = {True: 0, False: 0}
        for _ in range(240):
            rooms = draw.choice((2, 2, 3))
            kinds = tuple(drawn_way(draw, rooms, draw.choice((6, 8, 10))) for _ in range(draw.choice((1, 2, 2, 3))))
            limits = tuple(draw.choice((None, 1, 1, 2)) for _ in kinds)
            stuck = self.gets_stuck(rooms, kinds, limits)
            if stuck is not None:
                ring = self.check(rooms, kinds, limits)
                self.assertEqual(stuck, 0 if ring is None else len(ring), (rooms, kinds, limits))
                seen[ring is None] += 1
        self.assertGreater(min(seen.values()), 20)

    def gets_stuck(self, rooms, kinds, limits):
        """With how many hands it gets stuck, up to one more than there are rooms; 0 if never; None if too wide."""
        for many in range(1, rooms + 2):
            for hands in itertools.combinations_with_replacement(range(len(kinds)), many):
                if all(limit is None or hands.count(kind) <= limit for kind, limit in enumerate(limits)):
                    try:
                        if Through(supply_house(rooms, kinds, hands), 4000).can_get_stuck():
                            return many
                    except TooWide:
                        return None
        return 0

    def test_houses_of_the_ring(self):
        draw = random.Random(254)
        for _ in range(200):
            many, kinds, limits = drawn(draw)
            ring = self.ask(supply_ring, many, kinds, limits)[0] == "tells" and supply_ring(many, kinds, limits)
            if ring and len(ring) <= 5:
                house = self.answer(supply_house, many, kinds, tuple(kind for kind, _ in ring))
                self.assertFalse(is_never_stuck(house))
                pairs = tuple((hand, place) for hand, (_, place) in enumerate(ring))
                self.assertIn(pairs, rings.hold_rings(house))
            elif ring is None:
                for _ in range(4):
                    hands = tuple(kind for kind, limit in enumerate(limits) for _ in range(min(limit or 2, 2)))[:5]
                    self.assertIsNone(stuck_ring(supply_house(many, kinds, hands)))

    def test_more_never_mends(self):
        draw = random.Random(255)
        for _ in range(150):
            many, kinds, limits = drawn(draw, kinds=draw.randint(1, 4))
            if self.ask(supply_ring, many, kinds, limits)[0] == "tells":
                stuck = supply_ring(many, kinds, limits) is not None
                wider = tuple(limit if limit is None else draw.choice((limit, limit + 1, None)) for limit in limits)
                more = (kinds + (drawn_way(draw, many, 6),), limits + (draw.choice((None, 1)),))
                for args in ((kinds, wider), more):
                    if stuck and self.ask(supply_ring, many, *args)[0] == "tells":
                        self.assertIsNotNone(supply_ring(many, *args))

    def test_a_kind_told_twice(self):
        draw = random.Random(256)
        for _ in range(150):
            many, kinds, limits = drawn(draw, kinds=draw.randint(1, 4), most=6)
            sums = limits[:-1] + (None if limits[-1] is None else limits[-1] + 1,)
            told_twice = (kinds + kinds[-1:], limits + (1,))
            if self.ask(supply_ring, many, *told_twice)[0] == "tells":
                self.assertEqual(supply_ring(many, kinds, sums) is None, supply_ring(many, *told_twice) is None)
                self.tells(self.answer(fewest_hands, many, kinds, sums), fewest_hands, many, *told_twice)

    def test_numbers_and_gates(self):
        draw = random.Random(257)
        seen = 0
        for _ in range(150):
            many, kinds, limits = drawn(draw, most=6)
            if numbers(((None,) * many, kinds)) is not None:
                self.tells(None, supply_ring, many, kinds, limits)
                seen += 1
            if many < 6:
                led = tuple(around(many, way) for way in kinds)
                self.tells(None, supply_ring, many + 1, led, limits)
        self.assertGreater(seen, 20)

    def test_kinds_that_enter_doors(self):
        for orders in itertools.product(((1, 2), (2, 1)), ((0, 2), (2, 0)), ((0, 1), (1, 0))):
            evens = (("-", "even", "even"), ("even", "-", "even"), ("even", "even", "-"))
            self.assertFalse(is_never_stuck((((evens, orders),), (SHORT,) * 3)))
        for word in ("stand", "bow", "even"):
            door = ((("-", word), (word, "-")), ((1,), (0,)))
            self.assertEqual(word == "even", is_never_stuck(((door,), (SHORT, SHORT))))

    def test_great_supplies(self):
        draw = random.Random(258)
        began = time.time()
        for _ in range(60):
            make = draw.choice((drawn_way, staying_way))
            kinds = tuple(make(draw, 6, 24 if make == drawn_way else 12) for _ in range(5))
            self.ask(supply_ring, 6, kinds, tuple(draw.choice(LIMITS) for _ in kinds))
        row = tuple(stay(k, k + 1, 11) for k in range(5))
        self.tells(None, supply_ring, 6, row, (None,) * 5)
        rows = (stay(0, 1, 3) + stay(1, 2, 3) + stay(2, 3, 3), stay(3, 4, 5) + stay(4, 5, 5)) * 2 + (stay(0, 1, 11),)
        self.tells(None, supply_ring, 6, rows, (None,) * 5)
        last = (("in", 5), ("in", 0), ("out", 0), ("out", 5))
        self.ask(supply_ring, 6, rows[:4] + (last,), (None,) * 4 + (1,))
        self.raises(TooMany(400), supply_ring, 6, rows[:4] + (last,), (None,) * 4 + (1,))
        self.assertLess(time.time() - began, 20)

    def test_limits_that_leave_little(self):
        # Many hundreds of places each, and yet no ring, as one kind has to give two hands.
        began = time.time()
        both = (("in", 0), ("in", 1), ("out", 1), ("out", 0), ("in", 1), ("in", 2), ("out", 2), ("out", 1))
        others = (stay(2, 3, 11), stay(3, 4, 11), stay(4, 0, 11))
        self.tells(None, supply_ring, 6, (both,) + others, (1, None, None, None))
        self.raises(TooMany(400), supply_ring, 6, (both,) + others, (2, None, None, None))
        self.assertLess(time.time() - began, 10)


class SupplyRingErrors(Case):
    def check(self, wanted, many, kinds, limits, value):
        self.tells(wanted, supply_ring_error, many, kinds, limits, value)
        self.assertEqual(wanted, told.supply_ring_error(many, kinds, limits, value))

    def test_each_word(self):
        for value, wanted in (
                (((0, 1), (1, 1)), None), (((1, 1), (0, 1)), "form"), (((0, 1),), "form"),
                (((0, 0), (1, 1)), ("hold", 0)), (((0, 1), (1, 0)), ("hold", 0)), (((0, 1), (1, 2)), "form"),
                (None, "form"), ((), "form"), (((0, 1), (0, 1)), "form"), ([(0, 1), (1, 1)], "form"),
                (((0, 1), [1, 1]), "form"), (((0, 1), (1, True)), "form"), (((False, 1), (1, 1)), "form"),
                (((0, 1), (2, 1)), "form"), (((0, 1), (1, 4)), "form"), (((0, 1), (1, -1)), "form"),
                (((0, 1), (1, 1), (1, 1)), "form"), (((0, 1), (1, 1, 0)), "form"), (((-1, 1), (1, 1)), "form")):
            self.check(wanted, 2, (ONCE, BACK), FREE, value)
        self.check(("hold", 1), 3, (ONCE, SECOND), FREE, ((0, 1), (1, 1)))
        self.check(("twice", 2), 3, LED, FREE, ((0, 2), (1, 2)))
        self.check(("limit", 0), 2, (KNOT,), (1,), ((0, 1), (0, 5)))
        self.check(None, 2, (KNOT,), (2,), ((0, 1), (0, 5)))
        self.check("together", 3, (LATE, EARLY), FREE, ((0, 3), (1, 4)))
        self.check(None, 3, (LATE, EARLY), FREE, ((0, 1), (1, 4)))

    def test_first_of_several(self):
        whole = LATE + EARLY
        self.check(("limit", 0), 3, (whole,), (1,), ((0, 3), (0, 10)))
        self.check("together", 3, (whole,), (2,), ((0, 3), (0, 10)))
        gated_knot = around(2, KNOT)
        self.check(("twice", 2), 3, (gated_knot,), (1,), ((0, 2), (0, 6)))
        self.check(("hold", 1), 3, (gated_knot,), (1,), ((0, 1), (0, 2)))
        self.check("form", 3, (gated_knot,), (1,), ((0, 2), (0, 2)))
        deep = around(5, around(3, KNOT))
        self.check(("twice", 3), 6, (deep, deep), (1, 1), ((0, 3), (1, 7)))
        two = (ONCE + BACK, BACK + ONCE)
        self.check(("hold", 2), 2, two, (1, 1), ((0, 1), (0, 5), (1, 5)))

    def test_least_kind_beyond_its_limit(self):
        whole = sum([(("in", k), ("in", (k + 1) % 4), ("out", (k + 1) % 4), ("out", k)) for k in range(4)], ())
        value = ((0, 1), (1, 5), (0, 9), (1, 13))
        for limits, wanted in (((1, 1), ("limit", 0)), ((2, 1), ("limit", 1)), ((None, 1), ("limit", 1)),
                               ((2, 2), None), ((1, 2), ("limit", 0)), ((1, None), ("limit", 0)), (FREE, None)):
            self.check(wanted, 4, (whole, whole), limits, value)
            self.check(wanted, 4, (whole, whole, SHORT), limits + (1,), value)

    def test_strange_values(self):
        for value in STRANGE:
            self.agrees(told.supply_ring_error, supply_ring_error, 2, (ONCE, BACK), FREE, value)
            self.agrees(told.supply_ring_error, supply_ring_error, 2, (KNOT,), (None,), value)
        value = ((0, 1), (1, 1), (2, 1))
        for path in parts(value):
            for other in variants(value, path):
                self.agrees(told.supply_ring_error, supply_ring_error, 3, (ONCE, SECOND, THIRD), (None, 1, 2), other)

    def test_drawn_values(self):
        draw = random.Random(259)
        seen = {}
        for _ in range(250):
            many, kinds, limits = drawn(draw)
            pairs = [(kind, place) for kind, way in enumerate(kinds) for place in retold.entries(way)]
            values = [tuple(draw.choice(pairs) for _ in range(draw.randint(1, 4))) for _ in range(6)]
            almost = told.supply_rings_to_be(many, kinds, (None,) * len(kinds))
            almost = draw.sample(almost, min(6, len(almost)))
            if many < 6 and draw.random() < 0.3:
                kinds = tuple(around(many, way) for way in kinds)
                many, almost = many + 1, [tuple((kind, place + 1) for kind, place in row) for row in almost]
            values += almost
            for value in [tuple(sorted(value)) for value in values] + values:
                self.agrees(told.supply_ring_error, supply_ring_error, many, kinds, limits, value)
                error = supply_ring_error(many, kinds, limits, value)
                error = error if type(error) is not tuple else error[0]
                seen[error] = seen.get(error, 0) + 1
        for word in (None, "form", "hold", "twice", "limit", "together"):
            self.assertGreater(seen.get(word, 0), 3, seen)


class SupplyHouses(Case):
    def test_ordinary(self):
        self.tells(((None, None), (BACK, ONCE)), supply_house, 2, (ONCE, BACK), (1, 0))
        self.tells(((None,) * 6, (ONCE,)), supply_house, 6, (ONCE, BACK), (0,))
        self.tells(((None, None), (KNOT,) * 5), supply_house, 2, (KNOT,), (0,) * 5)
        for hands, wanted in (((0,), None), ((0, 0), ("hold", ((0, 1), (1, 5)))),
                              ((0, 0, 0), ("hold", ((0, 1), (1, 5))))):
            self.assertEqual(wanted, stuck_ring(supply_house(2, (KNOT,), hands)))

    def test_drawn(self):
        draw = random.Random(260)
        for _ in range(80):
            many, kinds, _ = drawn(draw)
            hands = tuple(draw.randrange(len(kinds)) for _ in range(draw.randint(1, 5)))
            house = self.answer(supply_house, many, kinds, hands)
            self.assertIsNone(house_error(house))
            self.assertEqual(((None,) * many, tuple(kinds[kind] for kind in hands)), house)
