"""How all come home: F2 to F4, and what F5 says of it."""

import random
import time
import unittest

from roomways.errors import TooMany, Unfit
from roomways.homes import home_bound, home_run, tries
from roomways.knownhouses import known, known_names
from roomways.runs import behind, entered, words
from roomways.standings import start
from roomways.steps import movers
from roomways.stuckness import is_never_stuck
from tests import retold
from tests import retold_rings as rings
from tests import retold_stalls as told
from tests.support import (Case, around, door_by, drawn_door, drawn_houses, drawn_names, drawn_run, drawn_way,
                           ranked_table, renamed, small_house)

SHORT = (("in", 0), ("out", 0))
BOTH = SHORT + (("in", 1), ("out", 1))
ONCE = (("in", 0), ("in", 1), ("out", 1), ("out", 0))
BACK = (("in", 1), ("in", 0), ("out", 0), ("out", 1))
OVER = door_by(("-s", "b-"))
MEEK, RANKED = known("meek", 2), known("ranked", 2)
LOCKED = ((None, MEEK[0][0]), (ONCE, ONCE))
# Each bows to the next one at the door 0; any two of them meet there, but never all three.
BY_TWO = ((door_by(("-bs", "s-b", "bs-")), None, None),
          (around(1, SHORT), around(2, SHORT), around(1, SHORT) + around(2, SHORT)))
# By these picks five meek hands of twelve entries each come home behind 4091 steps.
PICKS = (2, 4, 4, 1, 1, 0, 1, 0, 2, 0, 1, 4, 2, 2, 4, 3, 4, 0, 4, 2, 0, 2, 2, 1, 3, 4, 2, 3, 4, 0,
         4, 4, 3, 0, 1, 4, 2, 1, 0, 3, 1, 3, 0, 3, 2, 4, 0, 4, 4, 0, 1, 2, 3, 1, 2, 2, 4, 3, 2, 3)


def few(house):
    try:
        rings.stuck_ring(house)
    except TooMany:
        return False
    return True


def drawn(seed, many):
    draw = random.Random(seed)
    houses = [small_house(draw, draw.randint(1, 5)) for _ in range(many)] + drawn_houses(seed, many // 3, most=8)
    return [house for house in houses if few(house)]


class Tries(Case):
    def check(self, house):
        for room in range(len(house[0])):
            for hand in range(len(house[1])):
                self.agrees(told.tries, tries, house, room, hand)

    def test_ordinary(self):
        for many in (2, 3, 4, 5):
            for hand, wanted in zip(range(many), (1, 3, 6, 12, 24)):
                self.tells(wanted, tries, known("ranked", many), 0, hand)
            for hand in range(many):
                for name in ("level", "proud", "row"):
                    self.tells(1, tries, known(name, many), 0, hand)
                self.raises(Unfit(), tries, known("meek", many), 0, hand)
        twice = ((OVER,), (SHORT * 3, SHORT * 2))
        self.tells(3, tries, twice, 0, 0)
        self.tells(6, tries, twice, 0, 1)

    def test_plain_rooms_and_rooms_not_entered(self):
        self.tells(2, tries, ((None, OVER), (SHORT * 2, BOTH)), 0, 0)
        self.tells(0, tries, ((None, OVER), (SHORT * 2, BOTH)), 1, 0)
        self.tells(1, tries, ((None, OVER), (SHORT * 2, BOTH)), 1, 1)
        self.tells(0, tries, ((None, OVER), (SHORT, SHORT)), 1, 1)
        self.tells(3, tries, ((None,), (SHORT * 3,)), 0, 0)
        self.tells(12, tries, ((((("-",),), ((),)),), (SHORT * 12,)), 0, 0)

    def test_hands_that_never_meet(self):
        for room in (0, 1):
            for hand in (0, 1):
                self.tells(1, tries, LOCKED, room, hand)
        self.tells(1, tries, ((OVER, None), (BACK, BACK)), 0, 1)
        self.tells(3, tries, ((OVER, None), (BACK, SHORT)), 0, 1)
        later = (("in", 1), ("in", 0), ("out", 0), ("out", 1), ("in", 0), ("out", 0))
        self.tells(2 + 1 + 1, tries, ((OVER, None), (BACK, later)), 0, 1)

    def test_some_others_in_a_ring(self):
        house = ((door_by(("-sss", "b-bs", "bb-s", "bbb-")),), (SHORT,) * 4)
        for hand in range(4):
            self.raises(Unfit(), tries, house, 0, hand)
        house = ((house[0][0], None), (BOTH, BOTH, (("in", 1), ("out", 1)), BOTH))
        for hand, wanted in zip(range(4), (1, 3, 0, 6)):
            self.tells(wanted, tries, house, 0, hand)
        house = ((door_by(("-sb", "b-s", "sb-")),), (SHORT,) * 3)
        for hand in range(3):
            self.raises(Unfit(), tries, house, 0, hand)

    def test_meeting_two_by_two_is_enough_for_a_ring(self):
        for hand in range(3):
            self.raises(Unfit(), tries, BY_TWO, 0, hand)
        for hand, wanted in zip(range(3), (1, 0, 1)):
            self.tells(wanted, tries, BY_TWO, 1, hand)
        self.check(BY_TWO)
        less = (BY_TWO[0], (BY_TWO[1][0], BY_TWO[1][0], BY_TWO[1][2]))
        self.check(less)

    def test_drawn_houses(self):
        seen = {}
        for house in drawn(81, 200):
            self.check(house)
            for room in range(len(house[0])):
                try:
                    kind = max(tries(house, room, hand) for hand in range(len(house[1]))) > 2
                except Unfit:
                    kind = "ring"
                seen[kind] = seen.get(kind, 0) + 1
        self.assertGreater(min(seen.values()), 30, seen)


class Bounds(Case):
    def test_ordinary(self):
        self.tells(14, home_bound, RANKED)
        self.tells(10, home_bound, LOCKED)
        self.tells(47, home_bound, known("ranked", 3))
        self.tells(12, home_bound, ((door_by(("-e", "e-")), None), (ONCE, ONCE)))
        self.tells(28, home_bound, ((OVER, OVER), (BOTH, BOTH)))
        self.tells(2, home_bound, ((None,), (SHORT,)))

    def test_refused(self):
        for house in (known("crossed", 2), MEEK, known("proud", 3), known("level", 3), known("table", 5)):
            self.raises(Unfit(), home_bound, house)

    def test_never_stuck_but_yielding_in_a_ring(self):
        self.assertTrue(is_never_stuck(BY_TWO))
        self.raises(Unfit(), home_bound, BY_TWO)
        ways = BY_TWO[1][:2] + (BY_TWO[1][0],)
        self.agrees(told.home_bound, home_bound, (BY_TWO[0], ways))
        self.assertEqual("tells", self.ask(home_bound, (BY_TWO[0], ways))[0])

    def test_plain_rooms(self):
        for many in (2, 3, 4, 5):
            for name in ("row", "gated", "handed"):
                house = known(name, many)
                whole = sum(map(len, house[1]))
                self.tells(whole, home_bound, house)
                begun = behind(house, start(house), tuple(range(many)))
                for picks in ((0,), (1, 0, 4), (3, 2)):
                    self.assertEqual(whole, len(self.answer(home_run, house, begun, picks)))

    def test_one_hand(self):
        draw = random.Random(82)
        for _ in range(40):
            house = small_house(draw, 1)
            self.tells(len(house[1][0]), home_bound, house)
            begun = behind(house, start(house), (0,))
            self.tells((0,) * len(house[1][0]), home_run, house, begun, (4,))

    def test_drawn_houses(self):
        seen = {}
        for house in drawn(83, 200):
            self.agrees(told.home_bound, home_bound, house)
            kind = is_never_stuck(house)
            seen[kind] = seen.get(kind, 0) + 1
        self.assertGreater(min(seen.values()), 30, seen)

    def test_greatest_houses(self):
        draw = random.Random(84)
        ahead = time.monotonic()
        for _ in range(10):
            rooms = tuple((ranked_table(draw, 5, 0.1), drawn_door(draw, 5)[1]) for _ in range(5)) + (None,)
            house = (rooms, tuple(around(5, drawn_way(draw, 5, 22)) for _ in range(5)))
            self.assertGreater(self.answer(home_bound, house), 100)
            standing = behind(house, start(house), (0, 1, 2, 3, 4))
            self.assertLessEqual(len(self.answer(home_run, house, standing, (3, 1, 4))), home_bound(house))
        house = (known("ranked", 5)[0], (SHORT * 12,) * 5)
        self.agrees(told.home_bound, home_bound, house)
        self.assertLess(time.monotonic() - ahead, 30)


class HomeRuns(Case):
    def test_ordinary(self):
        row = known("row", 2)
        begun = behind(row, start(row), (0, 1))
        self.tells((0, 0, 0, 0, 1, 1, 1, 1), home_run, row, begun, (0,))
        self.tells((1, 1, 1, 1, 0, 0, 0, 0), home_run, row, begun, (1,))
        self.tells((), home_run, row, start(row), (0,))
        self.tells((), home_run, row, start(row), (4,) * 60)
        self.tells((1, 1, 1, 1), home_run, row, behind(row, start(row), (1,)), (3,))
        begun = behind(RANKED, start(RANKED), (0, 1, 1, 0))
        self.tells((1, 1, 0, 0, 1, 1, 1, 1), home_run, RANKED, begun, (0,))

    def test_all_barred_is_the_end(self):
        crossed = known("crossed", 2)
        self.tells((), home_run, crossed, behind(crossed, start(crossed), (0, 1, 0, 1)), (0,))
        self.tells((0, 0, 0, 0, 1, 1, 1, 1), home_run, crossed, behind(crossed, start(crossed), (0, 1)), (0,))
        self.tells((0, 1), home_run, crossed, behind(crossed, start(crossed), (0, 1)), (0, 1))
        proud = known("proud", 3)
        self.agrees(told.home_run, home_run, proud, behind(proud, start(proud), (0, 1, 2)), (2, 1, 0))

    def test_picks_are_taken_again_and_again(self):
        house = known("level", 5)
        begun = behind(house, start(house), (0, 1, 2, 3, 4))
        for picks in ((0,), (4,), (0, 1, 2, 3, 4), (4, 4, 0), (1,) * 59 + (2,), tuple(k % 5 for k in range(60))):
            self.agrees(told.home_run, home_run, house, begun, picks)

    def test_without_end(self):
        begun = behind(MEEK, start(MEEK), (0, 1, 0, 1))
        self.raises(TooMany(4000), home_run, MEEK, begun, (0, 1))
        self.tells((0, 0, 1, 1, 0, 0, 0, 0), home_run, MEEK, begun, (0,))

    def test_just_4000_steps_and_more(self):
        house = (known("meek", 5)[0], (SHORT * 12,) * 5)
        begun = behind(house, start(house), (0, 1, 2, 3, 4))
        run = told.home_run(house, begun, PICKS, 5000)
        self.assertEqual(4091, len(run))
        self.raises(TooMany(4000), home_run, house, begun, PICKS)
        for left in (90, 91, 92):
            picks = PICKS[left % 60:] + PICKS[:left % 60]
            standing = behind(house, begun, run[:left])
            if left == 90:
                self.raises(TooMany(4000), home_run, house, standing, picks)
            else:
                self.tells(run[left:], home_run, house, standing, picks)

    def test_drawn_runs(self):
        draw = random.Random(85)
        for house in drawn(85, 120):
            standing = behind(house, start(house), drawn_run(draw, house, start(house), draw.randint(0, 30)))
            picks = tuple(draw.randrange(5) for _ in range(draw.choice((1, 2, 7, 60))))
            self.agrees(told.home_run, home_run, house, standing, picks)


class WhatHolds(Case):
    def test_all_come_home(self):
        draw = random.Random(86)
        checked = 0
        for house in drawn(87, 250):
            if not is_never_stuck(house):
                continue
            run = drawn_run(draw, house, start(house), draw.randint(0, 40))
            standing = behind(house, start(house), run)
            picks = tuple(draw.randrange(5) for _ in range(draw.randint(1, 9)))
            home = home_run(house, standing, picks)
            self.assertTrue(all(word == "rest" for _, word, _ in behind(house, standing, home)[0]))
            for hand, (place, word, _) in enumerate(standing[0]):
                way = house[1][hand]
                ahead = [] if word == "rest" else [room for step, room in way[place:] if step == "in"]
                self.assertEqual(ahead, [room for one, room in entered(house, standing, home) if one == hand])
                if word == "rest":
                    self.assertNotIn(hand, home)
            self.assertNotIn("begin", words(house, standing, home))
            try:
                self.assertLessEqual(len(home), home_bound(house))
                checked += 1
            except Unfit:
                pass
        self.assertGreater(checked, 80)

    def test_rooms_called_otherwise_and_one_more(self):
        draw = random.Random(88)
        for house in drawn(88, 120):
            if is_never_stuck(house):
                more = (house[0] + (None,), house[1])
                door = (house[0] + (drawn_door(draw, len(house[1])),), house[1])
                for other in [renamed(house, drawn_names(draw, house))] + [more, door] * (len(house[0]) < 6):
                    self.assertEqual(retold_outcome(home_bound, house), retold_outcome(home_bound, other))

    def test_hands_called_otherwise(self):
        draw = random.Random(89)
        checked = 0
        for house in drawn(89, 150):
            hands = len(house[1])
            names = list(range(hands))
            draw.shuffle(names)
            rooms = []
            for room in house[0]:
                if room is not None:
                    at = [names.index(hand) for hand in range(hands)]
                    table = tuple(tuple(room[0][one][other] for other in at) for one in at)
                    room = (table, tuple(tuple(names[other] for other in room[1][one]) for one in at))
                rooms.append(room)
            other = (tuple(rooms), tuple(house[1][names.index(hand)] for hand in range(hands)))
            self.assertIsNone(retold.house_error(other))
            if is_never_stuck(house) and is_never_stuck(other):
                self.assertEqual(retold_outcome(home_bound, house), retold_outcome(home_bound, other))
                checked += 1
        self.assertGreater(checked, 40)

    def test_till_then_somebody_moves(self):
        for name in known_names():
            house = known(name, 3)
            if is_never_stuck(house):
                draw = random.Random(90)
                standing = behind(house, start(house), drawn_run(draw, house, start(house), 30))
                awake = [hand for hand, (_, word, _) in enumerate(standing[0]) if word != "rest"]
                self.assertTrue(not awake or set(awake) & set(movers(house, standing)))


def retold_outcome(function, house):
    """What a call tells, or that it is refused."""
    try:
        return function(house)
    except Unfit:
        return "unfit"


if __name__ == "__main__":
    unittest.main()
