"""Runs: B7, and what B9 says along them."""

import random
import unittest

from roomways.errors import BadRun
from roomways.knownhouses import known, known_names
from roomways.runs import behind, entered, first_double, words
from roomways.standings import flag, inside, standing_error, start
from roomways.standingtexts import read_standing, standing_text
from roomways.steps import barred, movers, next_step, stepped
from roomways.ways import held
from tests import retold
from tests.support import Case, drawn_houses, drawn_run, drawn_standing

SHORT = (("in", 0), ("out", 0))
ONCE = (("in", 0), ("in", 1), ("out", 1), ("out", 0))
BACK = (("in", 1), ("in", 0), ("out", 0), ("out", 1))
ALONE = ((((("-",),), ((),)),), (SHORT,))
CROSSED = ((None, None), (ONCE, BACK))
ALL = (behind, words, entered, first_double)


def runs_from(seed, many, length, coming, **told):
    """Drawn triples of a house, a standing, and a run that can be made from it."""
    draw = random.Random(seed)
    for house in drawn_houses(seed, many, **told):
        standing = start(house) if coming else drawn_standing(draw, house, 0.5)
        yield house, standing, drawn_run(draw, house, standing, length)


class Runs(Case):
    def all_agree(self, house, standing, run):
        for function in ALL:
            self.agrees(getattr(retold, function.__name__), function, house, standing, run)

    def all_raise(self, place, house, standing, run):
        for function in ALL:
            self.raises(BadRun(place), function, house, standing, run)

    def test_no_hands(self):
        for house in (ALONE, CROSSED, known("level", 5)):
            self.tells(start(house), behind, house, start(house), ())
            self.tells((), words, house, start(house), ())
            self.tells((), entered, house, start(house), ())
            self.tells(None, first_double, house, start(house), ())

    def test_one_hand_with_a_door(self):
        self.tells(("begin", "enter", "leave", "begin", "enter"), words, ALONE, start(ALONE), (0,) * 5)
        self.tells(((0, 0), (0, 0)), entered, ALONE, start(ALONE), (0,) * 5)
        self.tells((((1, "go", 0),), ()), behind, ALONE, start(ALONE), (0,) * 5)

    def test_all_words(self):
        house = known("ranked", 2)
        run = (1, 1, 0, 0, 1, 1, 0, 0, 1, 1, 1, 1)
        told = ("begin", "raise") * 2 + ("yield", "lower", "enter", "leave", "see", "raise", "enter", "leave")
        self.tells(told, words, house, start(house), run)
        self.tells(((0, 0), (1, 0)), entered, house, start(house), run)
        house = known("level", 3)
        told = ("begin", "raise", "hand", "hand", "look", "enter", "leave")
        self.tells(told, words, house, start(house), (2,) * 7)
        tokens = ((0, 0, 1, 0), (0, 0, 2, 0), (0, 1, 2, 1))
        self.tells((((0, "rest", 0),) * 3, tokens), behind, house, start(house), (2,) * 7)
        self.tells(((2, 0),), entered, house, start(house), (2,) * 7)

    def test_barred_at_each_place(self):
        stuck = behind(CROSSED, start(CROSSED), (0, 1, 0, 1))
        self.all_raise(0, CROSSED, stuck, (0,))
        self.all_raise(0, CROSSED, stuck, (1, 0, 0))
        self.all_raise(4, CROSSED, start(CROSSED), (0, 1, 0, 1, 0, 1, 0))
        self.all_raise(4, CROSSED, start(CROSSED), (0, 1, 0, 1, 1))
        row = known("row", 3)
        self.all_raise(3, row, start(row), (0, 0, 1, 1, 0, 0, 0))
        self.all_raise(4, row, start(row), (0, 1, 2, 0, 2, 0, 0, 0))

    def test_barred_behind_a_double(self):
        house = ((None, None), (ONCE, BACK, SHORT))
        double = (((2, "go", 0), (2, "go", 0), (0, "go", 0)), ())
        self.assertEqual(((0, 1), (0, 1)), inside(house, double))
        self.tells(0, first_double, house, double, ())
        self.tells(0, first_double, house, double, (0, 0, 1))
        self.all_raise(0, house, double, (2,))
        self.all_raise(1, house, double, (0, 2, 0))
        self.all_agree(house, double, (0, 1, 0, 1, 2, 2))

    def test_doubles_some_steps_later(self):
        house = known("level", 2)
        within = (((1, "go", 0), (0, "look", 0)), ((0, 0, 1, 1),))
        self.tells(1, first_double, house, within, (1,))
        self.tells(1, first_double, house, within, (1, 1, 1))
        self.tells(None, first_double, house, within, (0, 1))
        self.tells(None, first_double, house, within, ())
        house = known("level", 3)
        within = (((1, "go", 0), (0, "look", 0), (0, "rest", 0)), ((0, 0, 1, 1), (0, 0, 2, 0), (0, 1, 2, 1)))
        self.tells(2, first_double, house, within, (1, 1))
        self.tells(3, first_double, house, within, (2, 1, 1, 0, 1))
        self.tells(None, first_double, house, within, (2, 1))
        self.tells(None, first_double, house, within, (0, 1, 1, 1))

    def test_long_runs(self):
        plain = ((None,), (SHORT,))
        self.tells(start(plain), behind, plain, start(plain), (0,) * 3999)
        self.tells((((0, "go", 0),), ()), behind, plain, start(plain), (0,) * 4000)
        self.tells(("begin", "enter", "leave") * 1333 + ("begin",), words, plain, start(plain), (0,) * 4000)
        self.tells(((0, 0),) * 1333, entered, plain, start(plain), (0,) * 4000)
        self.tells(None, first_double, plain, start(plain), (0,) * 4000)
        self.tells((((1, "go", 0),), ()), behind, plain, start(plain), (0,) * 4001)
        row = known("row", 2)
        self.all_raise(3999, row, start(row), (0,) * 3996 + (0, 1, 0, 1))

    def test_a_long_run_of_five_hands(self):
        draw = random.Random(50)
        house = [house for house in drawn_houses(51, 60, most=8) if (len(house[0]), len(house[1])) == (6, 5)][0]
        run = drawn_run(draw, house, start(house), 4000)
        self.all_agree(house, start(house), run)

    def test_drawn_runs_from_start(self):
        for house, standing, run in runs_from(52, 60, 60, True, most=8):
            self.all_agree(house, standing, run)
            self.tells(None, first_double, house, standing, run)

    def test_drawn_runs_from_any_standing(self):
        doubles = 0
        for house, standing, run in runs_from(53, 120, 20, False, most=8):
            self.all_agree(house, standing, run)
            doubles += first_double(house, standing, run) is not None
        self.assertGreater(doubles, 10)

    def test_barred_at_drawn_places(self):
        draw = random.Random(54)
        raised = 0
        for house, standing, run in runs_from(54, 150, 40, False, most=8):
            places = [k for k in range(len(run) + 1) if retold.barred(house, retold.behind(house, standing, run[:k]))]
            if places:
                place = draw.choice(places)
                hand = draw.choice(retold.barred(house, retold.behind(house, standing, run[:place])))[0]
                self.all_raise(place, house, standing, run[:place] + (hand,) + run[place:])
                raised += 1
        self.assertGreater(raised, 40)

    def test_known_houses(self):
        draw = random.Random(55)
        for name in known_names():
            for many in (2, 3, 5):
                house = known(name, many)
                self.all_agree(house, start(house), drawn_run(draw, house, start(house), 80))

    def test_parts_of_runs(self):
        draw = random.Random(56)
        for house, standing, run in runs_from(56, 60, 40, False, most=8):
            cut = draw.randint(0, len(run))
            run, more = run[:cut], run[cut:]
            between = behind(house, standing, run)
            self.assertEqual(behind(house, standing, run + more), behind(house, between, more))
            whole = words(house, standing, run + more)
            self.assertEqual(whole, words(house, standing, run) + words(house, between, more))
            whole = entered(house, standing, run + more)
            self.assertEqual(whole, entered(house, standing, run) + entered(house, between, more))

    def test_answers_stay_whatever_is_asked_between(self):
        asked = list(runs_from(57, 30, 20, True, most=8))
        ahead = [[function(*told) for function in ALL] for told in asked]
        again = [[function(*told) for function in ALL] for told in reversed(asked)]
        self.assertEqual(ahead, again[::-1])


class WhatHolds(Case):
    def test_standings_along_runs(self):
        for coming in (True, False):
            for house, standing, run in runs_from(60, 60, 40, coming, most=8):
                for hand in run:
                    self.assertIsNone(standing_error(house, standing))
                    self.check_who_is_barred(house, standing)
                    self.check_who_holds(house, standing)
                    self.assertEqual(standing, read_standing(house, standing_text(house, standing)))
                    after = stepped(house, standing, hand)
                    self.check_what_changed(house, standing, hand, after)
                    standing = after
                    if coming:
                        self.assertLessEqual(max(map(len, inside(house, standing))), 1)
                self.assertIsNone(standing_error(house, standing))

    def check_who_is_barred(self, house, standing):
        moving, waiting = movers(house, standing), barred(house, standing)
        self.assertEqual(sorted(moving + tuple(item[0] for item in waiting)), list(range(len(house[1]))))
        self.assertEqual(sorted(waiting), list(waiting))
        self.assertEqual(sorted(moving), list(moving))
        for hand, (place, word, _) in enumerate(standing[0]):
            self.assertEqual(hand in moving, next_step(house, standing, hand) is not None)
            if word in ("rest", "hand", "yield"):
                self.assertIn(hand, moving)
            if word == "go" and hand not in moving:
                step, room = house[1][hand][place]
                self.assertEqual(("in", None), (step, house[0][room]))

    def check_who_holds(self, house, standing):
        told = [[] for _ in house[0]]
        for hand, (place, word, _) in enumerate(standing[0]):
            rooms = held(house[1][hand], place)
            if word == "rest":
                self.assertEqual((), rooms)
            for room in rooms:
                told[room].append(hand)
        self.assertEqual(tuple(map(tuple, told)), inside(house, standing))

    def check_what_changed(self, house, standing, hand, after):
        word = next_step(house, standing, hand)
        place, said, number = standing[0][hand]
        for other in range(len(house[1])):
            if other != hand:
                self.assertEqual(standing[0][other], after[0][other])
        unlike = [(ahead, now) for ahead, now in zip(standing[1], after[1]) if ahead != now]
        self.assertLessEqual(len(unlike), 1 if word == "hand" else 0)
        for ahead, now in unlike:
            self.assertEqual((ahead[:3], hand), (now[:3], ahead[3]))
        step, room = house[1][hand][place]
        plainly = word == "enter" and (house[0][room] is None or len(house[1]) == 1)
        last = word == "hand" and after[0][hand][1] == "look"
        for r in range(len(house[0])):
            flags = (flag(house, standing, r, hand), flag(house, after, r, hand))
            moves = r == room and (word in ("raise", "lower", "leave") or plainly or last)
            self.assertEqual(moves, flags[0] != flags[1], (word, flags))
            if moves and last:
                self.assertEqual(("half", "up"), flags)

    def test_lengths_of_entries(self):
        for house in drawn_houses(61, 60, most=6):
            hands = len(house[1])
            for hand in range(hands):
                way = house[1][hand]
                door = house[0][way[0][1]]
                steps = 1
                if door is not None and hands > 1:
                    steps = door[0][hand].count("even") + hands
                told = words(house, start(house), (hand,) * (steps + 1))
                self.assertEqual("enter", told[-1])
                self.assertEqual(1, told.count("enter"))
                if steps > 1:
                    self.assertEqual("raise", told[1])

    def test_rooms_called_otherwise(self):
        draw = random.Random(62)
        for house, standing, run in runs_from(62, 60, 30, False, most=8):
            names = list(range(len(house[0])))
            draw.shuffle(names)
            rooms = tuple(house[0][names.index(r)] for r in range(len(names)))
            ways = tuple(tuple((word, names[r]) for word, r in way) for way in house[1])
            tokens = tuple(sorted((names[r], i, j, who) for r, i, j, who in standing[1]))
            self.assertEqual(words(house, standing, run), words((rooms, ways), (standing[0], tokens), run))
            last = behind((rooms, ways), (standing[0], tokens), run)
            self.assertEqual(behind(house, standing, run)[0], last[0])


if __name__ == "__main__":
    unittest.main()
