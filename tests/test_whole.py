"""What the document says over the whole program: A2, sentence by sentence, on the same houses."""

import random

from roomways.alls import standings_of
from roomways.doors import door_rings, doors_to_be
from roomways.errors import TooMany, Unfit
from roomways.gates import fewest_gate, gate_error, gate_paper, gated
from roomways.histories import apart_by, histories, spots, stuck_ways, way_by
from roomways.holds import hold_rings, rings_to_be
from roomways.homes import home_bound, home_run
from roomways.housetexts import house_text, read_house
from roomways.keepouts import can_be_kept_out, chain, free_doors, keeping, keeping_error
from roomways.looks import kept_by_all, longest_by_all, stuck_by_all, together_by_all
from roomways.numbers import numbers, numbers_error, room_round, round_error
from roomways.offices import Office
from roomways.runs import behind, entered, first_double
from roomways.standings import start
from roomways.stuckness import is_never_stuck, stuck_ring
from roomways.supplies import fewest_hands, supply_house, supply_ring, supply_ring_error
from roomways.together import apart, arcs, bar, comes_together, meeting, order_of
from roomways.verdicts import verdict, verdict_error
from roomways.ways import entries
from tests import retold_programs as told
from tests.support import Case, drawn_choice, drawn_house, drawn_names, drawn_run, renamed, small_house, staying_house
from tests.test_alls import rude_house

MOST = 1500


def drawn(seed, many):
    """Drawn houses of few standings and few rings."""
    draw = random.Random(seed)
    found = []
    while len(found) < many:
        house = small_house(draw, draw.choice((2, 2, 3))) if len(found) % 2 else rude_house(draw)
        try:
            if len(standings_of(house)) < MOST:
                rings_to_be(house)
                found.append(house)
        except TooMany:
            continue
    return found


def crossing(seed, many):
    """Drawn houses of plain rooms, many of which get stuck."""
    draw = random.Random(seed)
    houses = [staying_house(draw, draw.choice((2, 2, 3)), 3, 6, 0) for _ in range(many)]
    return houses + [drawn_house(draw, draw.choice((1, 2, 3)), draw.randint(2, 4), 10, 0) for _ in range(many)]


def program_of(way):
    """The program without choices the one way of which is way."""
    rows = [[]]
    for word, room in way:
        if word == "in":
            rows.append([])
        else:
            inner = tuple(rows.pop())
            rows[-1].append(("in", room, inner))
    return tuple(rows[0])


def spot_at(program, way, place):
    """The spot of which the entry at this place of the one way of program comes."""
    row = sorted(told.rows_by(program, len(way)))[-1]
    return row[place][2]


class Whole(Case):
    def test_together(self):
        draw = random.Random(331)
        for house in drawn(332, 40):
            for _ in range(6):
                choice = drawn_choice(draw, house)
                by_all = together_by_all(house, choice)
                self.assertEqual(by_all, comes_together(house, choice))
                self.assertEqual(by_all, order_of(house, choice) is not None)
                self.assertEqual(by_all, bar(house, choice) is None)
                plain = ((None,) * len(house[0]), house[1])
                self.assertEqual(by_all, comes_together(plain, choice))
                if by_all:
                    run = meeting(house, choice)
                    spots_then = tuple((0, "rest", 0) if place is None else (place, "go", 0) for place in choice)
                    self.assertEqual(spots_then, behind(house, start(house), run)[0])
                if apart(house, choice) and not arcs(house, choice):
                    self.assertTrue(by_all)

    def test_gate_locks(self):
        for house in drawn(333, 60):
            ring = [row for row in rings_to_be(house) if apart(house, self.choice_of(house, row))]
            self.assertEqual(bool(ring), bool(hold_rings(house)))
            if not ring:
                for room in range(len(house[0])):
                    for row in doors_to_be(house, room):
                        choice = self.choice_of(house, row)
                        self.assertEqual(apart(house, choice), comes_together(house, choice))

    def choice_of(self, house, row):
        places = dict(row)
        return tuple(places.get(hand) for hand in range(len(house[1])))

    def test_never_stuck(self):
        seen = []
        for house in drawn(334, 80):
            stuck = stuck_by_all(house)
            rings = hold_rings(house) + sum([door_rings(house, room) for room in range(len(house[0]))], ())
            self.assertEqual(stuck, bool(rings))
            self.assertEqual(stuck, stuck_ring(house) is not None)
            self.assertEqual(stuck, not is_never_stuck(house))
            word, shown = verdict(house)
            self.assertEqual("stuck" if stuck else "never", word)
            self.assertIsNone(verdict_error(house, (word, shown)))
            seen.append(stuck)
        self.assertGreater(min(seen.count(True), seen.count(False)), 15)

    def test_home(self):
        draw = random.Random(335)
        seen = 0
        for house in drawn(336, 60):
            if is_never_stuck(house):
                for standing in draw.sample(standings_of(house), 4):
                    longest = longest_by_all(house, standing)
                    picks = tuple(draw.randrange(5) for _ in range(draw.randint(1, 9)))
                    run = home_run(house, standing, picks)
                    self.assertLessEqual(len(run), longest)
                    self.assertEqual({"rest"}, {word for _, word, _ in behind(house, standing, run)[0]})
                    try:
                        self.assertLessEqual(longest, home_bound(house))
                        seen += 1
                    except Unfit:
                        continue
        self.assertGreater(seen, 40)

    def test_kept_out(self):
        seen = []
        for house in drawn(337, 90):
            if is_never_stuck(house) and free_doors(house):
                for hand, way in enumerate(house[1]):
                    kept = [kept_by_all(house, hand, place) for place in entries(way)]
                    for place, one in zip(entries(way), kept):
                        self.assertEqual(one, chain(house, hand, place) is not None)
                        if one:
                            self.assertIsNone(keeping_error(house, hand, place, keeping(house, hand, place)))
                    self.assertEqual(any(kept), can_be_kept_out(house, hand))
                    seen.extend(kept)
        self.assertGreater(min(seen.count(True), seen.count(False)), 15)

    def test_gates_and_numbers(self):
        for house in drawn(338, 40):
            hands = fewest_gate(house)
            self.assertIsNone(gate_error(house, gate_paper(house)))
            free = gated(house, hands)
            self.assertTrue(is_never_stuck(free))
            for hand in hands:
                self.assertFalse(is_never_stuck(gated(house, tuple(one for one in hands if one != hand))))
            given, rooms = numbers(house), room_round(house)
            self.assertEqual(1, [given, rooms].count(None))
            if given is None:
                self.assertIsNone(round_error(house, rooms))
            else:
                self.assertIsNone(numbers_error(house, given))
                self.assertEqual((), hold_rings(house))
                self.assertIsNotNone(numbers(free))
            try:
                if len(standings_of(free)) < MOST:
                    self.assertFalse(stuck_by_all(free))
            except TooMany:
                continue

    def test_programs(self):
        draw = random.Random(339)
        seen = []
        for house in drawn(340, 30) + crossing(346, 30):
            many = len(house[0])
            programs = tuple(program_of(way) for way in house[1])
            plain = ((None,) * many, house[1])
            ways = stuck_ways(many, programs)
            self.assertEqual(is_never_stuck(plain), ways is None)
            seen.append(ways)
            if ways is not None:
                self.assertEqual(house[1], ways)
            for program, way in zip(programs, house[1]):
                self.assertEqual((way,), told.ways_of(program, 24))
                for spot in spots(program):
                    (history,) = histories(program, spot)
                    self.assertEqual(way, way_by(program, spot, history)[0])
            places = tuple(draw.choice(entries(way)) for way in house[1])
            choice = tuple(map(spot_at, programs, house[1], places))
            self.assertEqual(comes_together(plain, places), apart_by(programs, choice) is not None)
        self.assertGreater(min(seen.count(None), len(seen) - seen.count(None)), 15)

    def test_supplies(self):
        seen = []
        for house in drawn(341, 20) + crossing(347, 50):
            many, kinds = len(house[0]), house[1]
            ring = supply_ring(many, kinds, (1,) * len(kinds))
            self.assertEqual(is_never_stuck(((None,) * many, kinds)), ring is None)
            if ring is not None:
                self.assertEqual(stuck_ring(((None,) * many, kinds))[1], ring)
            free = supply_ring(many, kinds, (None,) * len(kinds))
            seen.append(free)
            if free is not None:
                self.assertIsNone(supply_ring_error(many, kinds, (None,) * len(kinds), free))
                self.assertEqual(len(free), fewest_hands(many, kinds, (None,) * len(kinds)))
                if len(free) < 6:
                    self.assertFalse(is_never_stuck(supply_house(many, kinds, tuple(kind for kind, _ in free))))
            else:
                self.assertIsNone(ring)
        self.assertGreater(len(seen) - seen.count(None), 8)

    def test_offices_go_as_runs_do(self):
        draw = random.Random(342)
        for house in drawn(343, 40):
            run = drawn_run(draw, house, start(house), 60)
            office = Office(read_house(house_text(house)))
            for version, hand in enumerate(run):
                self.assertEqual(version + 1, office.go(hand))
            self.assertEqual(behind(house, start(house), run), office.standing)
            self.assertEqual(entered(house, start(house), run), office.entered())
            self.assertIsNone(first_double(house, start(house), run))
            self.assertIn(office.standing, standings_of(house))

    def test_rooms_called_otherwise(self):
        draw = random.Random(344)
        for house in drawn(345, 30):
            other = renamed(house, drawn_names(draw, house))
            for tell in (stuck_by_all, is_never_stuck, free_doors, fewest_gate):
                self.assertEqual(tell(house), tell(other))
            self.assertEqual(verdict(house)[0], verdict(other)[0])
            self.assertEqual(len(standings_of(house)), len(standings_of(other)))
            self.assertEqual(numbers(house) is None, numbers(other) is None)
            many = len(house[0])
            for limits in ((1,) * len(house[1]), (None,) * len(house[1])):
                self.assertEqual(fewest_hands(many, house[1], limits), fewest_hands(many, other[1], limits))
