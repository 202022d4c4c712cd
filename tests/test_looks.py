"""What is told by going through all standings: K4 to K7, and what K8 says of them."""

import itertools
import random
import time

from roomways.alls import standings_of
from roomways.errors import TooMany, Unfit
from roomways.homes import home_bound
from roomways.housetexts import read_house
from roomways.keepouts import chain, free_doors, keeping
from roomways.knownhouses import known
from roomways.looks import kept_by_all, longest_by_all, stuck_by_all, together_by_all
from roomways.standings import start
from roomways.standingtexts import read_standing
from roomways.stuckness import is_never_stuck
from roomways.together import comes_together
from roomways.ways import entries
from tests import retold
from tests.goingthrough import Through, TooWide
from tests.support import (STRANGE, Case, around, drawn_choice, drawn_house, drawn_names, drawn_standing, renamed,
                           small_house, staying_house)
from tests.test_alls import AS_MANY, BACK, CROSSED, EVEN, NESTED, ONCE, SHORT, drawn, rude_house

LATE = (("in", 0), ("in", 1), ("out", 1), ("in", 2), ("out", 2), ("out", 0))
EARLY = (("in", 1), ("in", 0), ("out", 0), ("in", 2), ("in", 0), ("out", 0), ("out", 2), ("out", 1))
PAIR = ((None,) * 3, (LATE, EARLY))
GO = (0, "go", 0)


def all_choices(house):
    return itertools.product(*[[None] + list(range(len(way))) for way in house[1]])


class TogetherByAll(Case):
    def test_ordinary(self):
        for house, choice, wanted in (
                (PAIR, (3, 4), False), (PAIR, (1, 4), True), (PAIR, (1, 1), True), (PAIR, (4, 4), False),
                (PAIR, (None, None), True), (PAIR, (0, 0), True), (CROSSED, (1, 1), True), (CROSSED, (1, 2), False),
                (CROSSED, (2, 0), True), (CROSSED, (2, 1), False), (CROSSED, (3, 1), True), (CROSSED, (2, 2), False),
                (CROSSED, (None, 3), True), (NESTED, (2, 0), True), (NESTED, (2, 1), False)):
            self.tells(wanted, together_by_all, house, choice)

    def test_all_choices_of_small_houses(self):
        draw = random.Random(271)
        for house, through in drawn(272, 36):
            meetings = through.meetings()
            choices = list(all_choices(house))
            for choice in draw.sample(choices, min(12, len(choices))):
                self.tells(choice in meetings, together_by_all, house, choice)
                self.tells(choice in meetings, comes_together, house, choice)

    def test_ways_that_cross(self):
        draw = random.Random(273)
        seen = []
        for _ in range(40):
            house = staying_house(draw, 2, 3, 6)
            for choice in [drawn_choice(draw, house, 0.9) for _ in range(4)]:
                outcome = self.ask(together_by_all, house, choice)
                if outcome[0] == "tells":
                    seen.append(together_by_all(house, choice))
                    self.tells(seen[-1], comes_together, house, choice)
        self.assertGreater(seen.count(False), 10)
        self.assertGreater(seen.count(True), 10)


class StuckByAll(Case):
    def test_known_houses(self):
        for house, wanted in ((CROSSED, True), (NESTED, False), (known("ranked", 3), False), (known("level", 2), False),
                              (known("meek", 2), True), (known("proud", 2), True), (known("row", 3), False),
                              (known("table", 4), True), (known("level", 3), True), (known("meek", 3), True),
                              (known("gated", 3), False), (known("handed", 4), False), (((None,), (SHORT,)), False)):
            self.tells(wanted, stuck_by_all, house)

    def test_against_a_going_through(self):
        seen = []
        for house, through in drawn(274, 90):
            seen.append(through.can_get_stuck())
            self.tells(seen[-1], stuck_by_all, house)
            self.tells(not seen[-1], is_never_stuck, house)
        self.assertGreater(min(seen.count(True), seen.count(False)), 15)


class KeptByAll(Case):
    def test_known_houses(self):
        for house, wanted in ((CROSSED, [True, True]), (NESTED, [False, False]), (known("ranked", 2), [False, True]),
                              (known("level", 2), [False, False]), (known("meek", 2), [True, True]),
                              (known("proud", 2), [False, False]), (known("row", 2), [True, True])):
            for hand in (0, 1):
                self.tells(wanted[hand], kept_by_all, house, hand, 0)
        self.tells(False, kept_by_all, CROSSED, 0, 1)
        self.tells(False, kept_by_all, CROSSED, 1, 1)

    def test_no_entries(self):
        wide = known("level", 4)
        for house in (CROSSED, wide):
            for hand, place in ((0, 2), (True, 0), (False, 0), (2, 0) if house == CROSSED else (4, 0), (-1, 0),
                                (0, True), (0, False), (0, -1), (0, 4), (None, 0), (0, None), ("0", 0), ((0,), 0),
                                ([0], [0])):
                self.raises(Unfit(), kept_by_all, house, hand, place)
        for value in STRANGE:
            if not (retold.integer(value) and value in (0, 1)):
                self.raises(Unfit(), kept_by_all, CROSSED, value, 0)
                self.raises(Unfit(), kept_by_all, CROSSED, 0, value)
        self.raises(TooMany(4000), kept_by_all, wide, 0, 0)

    def test_against_a_going_through(self):
        seen = []
        for house, through in drawn(275, 70):
            for hand, way in enumerate(house[1]):
                for place in entries(way)[:3]:
                    seen.append(through.can_be_kept(hand, place))
                    self.tells(seen[-1], kept_by_all, house, hand, place)
        self.assertGreater(min(seen.count(True), seen.count(False)), 25)

    def test_chains(self):
        seen = []
        for house, _ in drawn(276, 120):
            if is_never_stuck(house) and free_doors(house):
                for hand, way in enumerate(house[1]):
                    for place in entries(way)[:2]:
                        seen.append(chain(house, hand, place) is not None)
                        self.tells(seen[-1], kept_by_all, house, hand, place)
                        self.assertEqual(seen[-1], keeping(house, hand, place) is not None)
        self.assertGreater(min(seen.count(True), seen.count(False)), 15)


class LongestByAll(Case):
    def test_ordinary(self):
        level, ranked, meek, proud = [known(name, 2) for name in ("level", "ranked", "meek", "proud")]
        look, rest = (0, "look", 0), (0, "rest", 0)
        for house, standing, wanted in (
                (level, start(level), 0), (level, ((GO, GO), ((0, 0, 1, 0),)), 8),
                (NESTED, ((GO, GO), ((0, 0, 1, 0),)), 14), (ranked, ((GO, GO), ()), 10),
                (ranked, ((look, (0, "yield", 0)), ()), 7), (CROSSED, ((GO, GO), ()), 8),
                (meek, ((look, look), ()), None), (meek, ((look, rest), ()), 2), (proud, ((look, look), ()), 0),
                (((None,), (SHORT * 12,)), ((GO,), ()), 24)):
            self.tells(wanted, longest_by_all, house, standing)

    def test_against_a_going_through(self):
        draw = random.Random(277)
        nones = 0
        for house, through in drawn(278, 60):
            longest = through.longest_home()
            for number in draw.sample(range(len(longest)), min(6, len(longest))):
                self.tells(longest[number], longest_by_all, house, through.standings[number])
                nones += longest[number] is None
        self.assertGreater(nones, 10)

    def longest(self, house, standing, most=3000):
        """The same by going through all runs, one standing behind another; None if some comes again."""
        known_ones, path = {}, []

        def far(at):
            if at in path:
                return None
            if at not in known_ones:
                path.append(at)
                found = []
                for hand in retold.movers(house, at):
                    if at[0][hand][1] != "rest":
                        found.append(far(retold.stepped(house, at, hand)))
                path.pop()
                known_ones[at] = None if None in found else max([one + 1 for one in found], default=0)
            return known_ones[at]

        return far(standing)

    def test_standings_that_need_not_come(self):
        draw = random.Random(279)
        seen = []
        for _ in range(120):
            house = draw.choice((small_house(draw, draw.choice((1, 2, 2, 3))), rude_house(draw)))
            standing = drawn_standing(draw, house, 0.5)
            seen.append(self.longest(house, standing))
            self.tells(seen[-1], longest_by_all, house, standing)
        self.assertGreater(seen.count(None), 4)
        self.assertGreater(len(set(seen)), 12)

    def test_home_bounds(self):
        draw = random.Random(280)
        seen = 0
        for house, through in drawn(281, 60):
            if is_never_stuck(house):
                for standing in draw.sample(through.standings, min(5, len(through.standings))):
                    longest = self.answer(longest_by_all, house, standing)
                    self.assertIsNotNone(longest)
                    try:
                        self.assertLessEqual(longest, home_bound(house))
                        seen += 1
                    except Unfit:
                        continue
        self.assertGreater(seen, 60)

    def test_just_as_many_and_one_more(self):
        # From a place on each hand of a room of its own has as many places as steps left, and the rest: a product.
        ways = tuple((("in", k), ("out", k)) * 12 for k in range(3))
        for places, many, wanted in (((9, 0, 15), 4000, 15 + 24 + 9), ((9, 0, 14), 4400, None),
                                     ((24 - 4, 24 - 24, 1), 3000, 51)):
            self.assertEqual(many, (25 - places[0]) * (25 - places[1]) * (25 - places[2]))
            self.check_many(many, wanted, ((None,) * 3, ways), (tuple((place, "go", 0) for place in places), ()))
        house = read_house(
            "plain\ndoor -ee e-e ee- 21 02 01\ndoor -ee e-e ee- 21 20 10\nplain\nplain\n"
            "way +2 -2 +0 +4 +2 +3 -3 +1 -1 +1 +3 -3 +3 -3 +3 -3 -1 -2 -4 -0\nway +4 -4 +3 +0 +1 +2 -2 +2 -2 -1 -0 -3\n"
            "way +4 -4 +3 +0 +1 -1 -0 -3 +3 -3 +4 -4 +3 +2 -2 -3")
        self.check_many(4001, None, house, read_standing(house, "go 0, go 0, go 1; 0 0 1 0 0 1"))

    def check_many(self, many, wanted, house, standing):
        seen, row = {standing: True}, [standing]
        for at in row:
            for hand in retold.movers(house, at):
                behind_it = retold.stepped(house, at, hand)
                if at[0][hand][1] != "rest" and behind_it not in seen:
                    seen[behind_it] = True
                    row.append(behind_it)
        self.assertEqual(many, len(seen))
        if many > 4000:
            self.raises(TooMany(4000), longest_by_all, house, standing)
        else:
            self.tells(wanted, longest_by_all, house, standing)


class Looks(Case):
    def test_just_as_many_and_one_more(self):
        for text, many in AS_MANY:
            house = read_house(text)
            calls = ((together_by_all, (None,) * len(house[1])), (stuck_by_all,), (kept_by_all, 0, 0))
            for function, *args in calls:
                if many > 4000:
                    self.raises(TooMany(4000), function, house, *args)
                else:
                    self.answer(function, house, *args)
            self.tells(0, longest_by_all, house, start(house))

    def test_rooms_called_otherwise(self):
        draw = random.Random(282)
        for house, _ in drawn(283, 30):
            names = drawn_names(draw, house)
            other = renamed(house, names)
            choice = drawn_choice(draw, house)
            standing = draw.choice(standings_of(house))
            moved = (standing[0], tuple(sorted((names[room], i, j, who) for room, i, j, who in standing[1])))
            self.tells(together_by_all(house, choice), together_by_all, other, choice)
            self.tells(stuck_by_all(house), stuck_by_all, other)
            self.tells(kept_by_all(house, 0, 0), kept_by_all, other, 0, 0)
            self.tells(longest_by_all(house, standing), longest_by_all, other, moved)

    def test_great_houses(self):
        draw = random.Random(284)
        began = time.time()
        for _ in range(10):
            house = drawn_house(draw, hands=5, many=6)
            self.ask(together_by_all, house, drawn_choice(draw, house))
            self.ask(stuck_by_all, house)
            self.ask(kept_by_all, house, 4, entries(house[1][4])[-1])
            self.ask(longest_by_all, house, drawn_standing(draw, house))
            self.ask(longest_by_all, house, start(house))
        for name, many in (("table", 5), ("proud", 4), ("level", 3), ("row", 5), ("handed", 5), ("gated", 5)):
            house = known(name, many)
            self.answer(stuck_by_all, house)
            self.answer(kept_by_all, house, 1, 0)
        self.assertLess(time.time() - began, 60)

    def test_a_gate_and_evens(self):
        house = ((EVEN, None, None), tuple(around(2, way) for way in (ONCE, BACK)))
        self.tells(False, stuck_by_all, house)
        self.tells(True, stuck_by_all, ((EVEN, None), (ONCE, BACK)))
        try:
            Through(house, 4000)
        except TooWide:
            self.fail("there are few standings")
