"""What the rules tell of small houses, held against a going through all their standings that come."""

import itertools
import random
import unittest

from roomways.errors import TooMany, Unfit
from roomways.gates import fewest_gate, gate_error, gate_paper, gated
from roomways.holds import hold_rings, rings_to_be
from roomways.homes import home_bound
from roomways.keepouts import can_be_kept_out, chain, chain_error, free_doors, keeping, keeping_error
from roomways.knownhouses import known
from roomways.nevers import never, never_error
from roomways.runs import behind
from roomways.stalls import stall, stall_error
from roomways.standings import start
from roomways.stuckness import is_never_stuck, stuck_ring
from roomways.together import apart, bar, comes_together, meeting, order_of
from roomways.ways import entries
from tests import retold_rings as rings
from tests.goingthrough import Through, TooWide
from tests.support import around, door_by, drawn_order, drawn_way, ranked_table, small_house, staying_house

SHORT = (("in", 0), ("out", 0))
ONCE = (("in", 0), ("in", 1), ("out", 1), ("out", 0))
BACK = (("in", 1), ("in", 0), ("out", 0), ("out", 1))
PAIRS = ("ee", "ss", "sb", "bs", "bb")


def table_of(hands, pairs):
    """The table in which these two signs are the words of each two hands."""
    rows = [["-"] * hands for _ in range(hands)]
    for (one, other), (to, back) in zip(itertools.combinations(range(hands), 2), pairs):
        rows[one][other], rows[other][one] = to, back
    return door_by(["".join(row) for row in rows])[0]


def all_doors(hands):
    """All doors for so many hands."""
    several = [list(itertools.permutations([j for j in range(hands) if j != i])) for i in range(hands)]
    for pairs in itertools.product(PAIRS, repeat=hands * (hands - 1) // 2):
        for orders in itertools.product(*several):
            yield (table_of(hands, pairs), orders)


def all_choices(house):
    return itertools.product(*[[None] + list(range(len(way))) for way in house[1]])


def few(house):
    doors = sum(len(rings.every_door_to_be(house, room)) for room in range(len(house[0])))
    return len(rings.every_ring_to_be(house)) + doors <= 400


class Small(unittest.TestCase):
    def through(self, house, most=6000):
        """All standings of a house, None if they are too many."""
        try:
            return Through(house, most)
        except TooWide:
            return None

    def check_choices(self, house, through, choices):
        met = through.meetings()
        for choice in choices:
            wanted = choice in met
            self.assertEqual(wanted, comes_together(house, choice), (house, choice))
            self.assertEqual(wanted, order_of(house, choice) is not None)
            self.assertEqual(wanted, bar(house, choice) is None)
            if wanted:
                spots = tuple((0, "rest", 0) if place is None else (place, "go", 0) for place in choice)
                self.assertEqual(spots, behind(house, start(house), meeting(house, choice))[0])
            else:
                self.assertRaises(Unfit, meeting, house, choice)

    def check_rings_of_holds(self, house):
        loose = [ring for ring in rings_to_be(house) if apart(house, rings.choice_by(house, ring))]
        self.assertEqual(bool(loose), bool(hold_rings(house)))

    def check_stuck(self, house, through):
        """Whether the house can get stuck; a stall, or a paper that it never does, is told."""
        stuck = through.can_get_stuck()
        self.assertEqual(stuck, stuck_ring(house) is not None, house)
        self.assertEqual(stuck, not is_never_stuck(house))
        self.assertEqual(stuck, stall(house) is not None)
        if stuck:
            self.assertIsNone(stall_error(house, stall(house)), house)
        if few(house):
            paper = never(house)
            self.assertEqual(stuck, paper is None)
            if not stuck:
                self.assertIsNone(never_error(house, paper), house)
        return stuck

    def check_home(self, house, through):
        """Behind each standing, nobody beginning, all come home; returns whether a bound is told."""
        longest = through.longest_home()
        self.assertNotIn(None, longest, house)
        for standing, barred in zip(through.standings, through.barred):
            awake = {hand for hand, (_, word, _) in enumerate(standing[0]) if word != "rest"}
            self.assertTrue(not awake or awake - set(barred))
        try:
            self.assertLessEqual(max(longest), home_bound(house), house)
        except Unfit:
            return False
        return True

    def check_kept(self, house, through):
        """Returns for each entry whether its hand can be kept out there."""
        told = []
        for hand, way in enumerate(house[1]):
            found = []
            for place in entries(way):
                made, kept = chain(house, hand, place), keeping(house, hand, place)
                found.append(through.can_be_kept(hand, place))
                self.assertEqual(found[-1], made is not None, (house, hand, place))
                self.assertEqual(found[-1], kept is not None)
                if made is not None:
                    self.assertIsNone(chain_error(house, hand, place, made), (house, hand, place))
                    self.assertIsNone(keeping_error(house, hand, place, kept), (house, hand, place))
            self.assertEqual(any(found), can_be_kept_out(house, hand))
            told += found
        return told

    def check_gates(self, house):
        """Each gate house is gone through, too."""
        if len(house[0]) == 6:
            return
        hands = range(len(house[1]))
        rows = [row for many in range(len(house[1]) + 1) for row in itertools.combinations(hands, many)]
        free = []
        for row in rows:
            through = self.through(gated(house, row))
            if through is None:
                return
            stuck = through.can_get_stuck()
            self.assertEqual(stuck, not is_never_stuck(gated(house, row)), (house, row))
            free += [] if stuck else [row]
        self.assertEqual(free[0], fewest_gate(house), house)
        self.assertIsNone(gate_error(house, gate_paper(house)))


class GoingThrough(Small):
    def test_as_many_standings_as_the_document_tells(self):
        nested = ((door_by(("-e", "e-")), door_by(("-s", "b-"))), (ONCE, ONCE))
        for house, many in ((((None, None), (ONCE, BACK)), 19), (nested, 58), (known("ranked", 2), 23),
                            (known("level", 2), 34), (known("meek", 2), 35), (known("proud", 2), 15),
                            (known("table", 3), 87), (known("table", 4), 391), (known("table", 5), 1743),
                            (known("row", 2), 16), (known("row", 3), 44), (known("ranked", 3), 257),
                            (known("level", 3), 755)):
            self.assertEqual(many, len(Through(house).standings))
        self.assertIsNone(self.through(known("level", 4), 4000))

    def test_what_the_document_tells_of_known_houses(self):
        told = [("crossed", True, [[True, True], [False, False]]), ("ranked", False, [[False, True]]),
                ("level", False, [[False, False]]), ("meek", True, [[True, True]]), ("proud", True, [[False, False]])]
        for name, stuck, kept in told:
            through = Through(known(name, 2))
            self.assertEqual(stuck, through.can_get_stuck())
            for number, row in enumerate(kept):
                self.assertEqual(row, [through.can_be_kept(hand, number) for hand in (0, 1)])


class Choices(Small):
    def test_all_choices_of_drawn_houses(self):
        draw = random.Random(121)
        houses = [small_house(draw, 1 + number % 3) for number in range(150)]
        houses += [staying_house(draw, 2, draw.randint(2, 4), 5, 0.5) for _ in range(80)]
        together = {True: 0, False: 0, "ring": 0}
        for house in houses:
            through = self.through(house)
            if through is not None:
                choices = list(all_choices(house))
                choices = draw.sample(choices, min(60, len(choices)))
                self.check_choices(house, through, choices)
                for choice in choices:
                    together[comes_together(house, choice)] += 1
                    together["ring"] += apart(house, choice) and not comes_together(house, choice)
        self.assertGreater(min(together.values()), 20, together)

    def test_every_choice_of_some_houses(self):
        doors = (door_by(("-e", "e-")), door_by(("-b", "s-")), door_by(("-b", "b-")), None)
        for first, second in itertools.product(doors, repeat=2):
            late = (("in", 0), ("in", 1), ("out", 1), ("out", 0), ("in", 1), ("out", 1))
            for ways in ((ONCE, BACK), (late, BACK), (late, late), (ONCE, ONCE)):
                house = ((first, second), ways)
                self.check_choices(house, Through(house), all_choices(house))

    def test_rings_of_holds(self):
        draw = random.Random(122)
        houses = [small_house(draw, draw.randint(1, 4)) for _ in range(200)]
        houses += [staying_house(draw, draw.randint(2, 4), draw.randint(2, 5), 6) for _ in range(200)]
        for house in houses:
            if few(house):
                self.check_rings_of_holds(house)


class StuckOrNever(Small):
    def check(self, house, most=6000):
        """Everything that is told of a house; returns what it was, None if it was too wide."""
        through = self.through(house, most)
        if through is None:
            return None
        if self.check_stuck(house, through):
            return "stuck"
        bounded = self.check_home(house, through)
        if not free_doors(house):
            self.assertRaises(Unfit, can_be_kept_out, house, 0)
            return "unfree"
        kept = self.check_kept(house, through)
        return ("kept" if any(kept) else "not kept") if bounded else "unbounded"

    def test_one_hand(self):
        draw = random.Random(123)
        for _ in range(60):
            self.assertEqual("not kept", self.check(small_house(draw, 1)))

    def test_all_doors_of_two(self):
        for door in all_doors(2):
            for ways in ((SHORT, SHORT), (SHORT * 2, SHORT)):
                self.assertIsNotNone(self.check(((door,), ways)))
            for other in (None, door_by(("-e", "e-")), door_by(("-b", "b-")), door_by(("-s", "s-"))):
                for ways in ((ONCE, ONCE), (ONCE, BACK), (BACK, SHORT), (SHORT + BACK, ONCE)):
                    self.assertIsNotNone(self.check(((door, other), ways)))

    def test_all_doors_of_three(self):
        seen = {}
        for door in all_doors(3):
            kind = self.check(((door,), (SHORT,) * 3))
            seen[kind] = seen.get(kind, 0) + 1
        self.assertEqual({"stuck", "kept"}, set(seen))
        self.assertGreater(min(seen.values()), 50, seen)

    def test_drawn_houses(self):
        draw = random.Random(124)
        seen = {}
        for number in range(500):
            kind = self.check(small_house(draw, draw.choice((2, 2, 3)), doors=draw.choice((0.3, 1))))
            seen[kind] = seen.get(kind, 0) + 1
        self.assertGreater(min(seen.get(kind, 0) for kind in ("stuck", "kept", "not kept")), 30, seen)

    def test_doors_that_come_to_no_harm(self):
        draw = random.Random(125)
        seen = {}
        for _ in range(120):
            hands = draw.choice((2, 3))
            pairs = [draw.choice(PAIRS) for _ in range(hands * (hands - 1) // 2)]
            door = (table_of(hands, pairs), tuple(drawn_order(draw, hands, hand) for hand in range(hands)))
            gates = [draw.choice(((), (1,), (2,), (1, 2))) for _ in range(hands)]
            ways = []
            for gate in gates:
                way = SHORT
                for room in gate:
                    way = around(room, way)
                ways.append(way + draw.choice(((), (), (("in", 2), ("out", 2)))))
            kind = self.check(((door, None, None), tuple(ways)))
            seen[kind] = seen.get(kind, 0) + 1
        self.assertGreater(seen.get("unfree", 0), 10, seen)

    def test_each_bows_to_the_next_but_never_all_together(self):
        bow = door_by(("-bs", "s-b", "bs-"))
        ways = (around(1, SHORT), around(2, SHORT), around(1, SHORT) + around(2, SHORT))
        house = ((bow, None, None), ways)
        through = Through(house, 30000)
        self.assertFalse(self.check_stuck(house, through))
        self.assertFalse(self.check_home(house, through))

    def test_chains_of_several_links(self):
        draw = random.Random(126)
        seen = {}
        while sum(seen.values()) < 60:
            orders = tuple(drawn_order(draw, 3, hand) for hand in range(3))
            door = (ranked_table(draw, 3, 0.5), orders) if draw.random() < 0.7 else None
            ways = [around(1, SHORT), ONCE, SHORT, SHORT + (("in", 1), ("out", 1)), BACK, drawn_way(draw, 2, 4)]
            house = ((door, None), tuple(draw.choice(ways) for _ in range(3)))
            if free_doors(house) and is_never_stuck(house):
                lengths = [len(made[0]) for made in [chain(house, hand, place) for hand, way in enumerate(house[1])
                                                     for place in entries(way)] if made]
                if max(lengths, default=0) > 1:
                    kind = self.check(house, 20000)
                    seen[kind] = seen.get(kind, 0) + 1
        self.assertGreater(seen.get("kept", 0), 40, seen)

    def test_four_hands(self):
        draw = random.Random(127)
        seen = {}
        for _ in range(60):
            house = small_house(draw, 4, draw.randint(1, 3), (2, 2, 4), 0.4)
            kind = self.check(house, 8000)
            seen[kind] = seen.get(kind, 0) + 1
        self.assertGreater(seen.get("kept", 0) + seen.get("stuck", 0), 20, seen)


class Gates(Small):
    def test_drawn_houses(self):
        draw = random.Random(128)
        for number in range(150):
            house = small_house(draw, 2 + number % 2, draw.randint(1, 3), (2, 4, 4, 6), 0.5)
            try:
                fewest_gate(house)
            except TooMany:
                continue
            self.check_gates(house)

    def test_known_houses(self):
        for name in ("crossed", "row", "meek", "proud", "ranked", "level", "table", "handed"):
            for many in (2, 3):
                self.check_gates(known(name, many))


if __name__ == "__main__":
    unittest.main()
