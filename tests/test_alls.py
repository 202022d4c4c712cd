"""All standings that come: K1 to K3, and what K8 says of them."""

import random
import time

from roomways.alls import nearest, standings_of
from roomways.errors import TooMany
from roomways.housetexts import read_house
from roomways.knownhouses import known
from roomways.runs import behind, first_double
from roomways.standings import inside, standing_error, start
from tests import retold
from tests.goingthrough import Through, TooWide
from tests.support import (Case, door_by, drawn_door, drawn_house, drawn_names, drawn_standing, drawn_way, parts,
                           renamed, small_house)

SHORT = (("in", 0), ("out", 0))
ONCE = (("in", 0), ("in", 1), ("out", 1), ("out", 0))
BACK = (("in", 1), ("in", 0), ("out", 0), ("out", 1))
CROSSED = ((None, None), (ONCE, BACK))
EVEN = ((("-", "even"), ("even", "-")), ((1,), (0,)))
OVER = ((("-", "stand"), ("bow", "-")), ((1,), (0,)))
NESTED = ((EVEN, OVER), (ONCE, ONCE))
# The texts of houses, and how many standings come.
AS_MANY = (
    ("plain\nplain\ndoor -sbs s-bb ss-b ssb- 123 203 013 210\nplain\nplain\nway +2 +1 +3 -3 -1 -2\n"
     "way +3 +0 +2 -2 -0 -3\nway +3 +1 -1 -3 +3 +1 -1 -3\nway +0 -0 +4 -4 +4 +1 +2 -2 -1 -4", 3999),
    ("door -ebs e-bs bs-s ssb- 231 302 031 012\nplain\nplain\nplain\nway +2 -2 +3 +1 -1 -3 +1 -1 +1 -1 +3 -3\n"
     "way +0 +3 +1 -1 -3 +3 +1 -1 -3 -0\nway +3 +1 +0 -0 +0 +2 -2 -0 -1 -3\nway +2 -2", 4000),
    ("plain\nplain\ndoor -ese e-es be-b ebb- 231 032 301 201\nplain\nplain\nway +1 +0 -0 +4 -4 -1\n"
     "way +2 +0 +4 -4 -0 -2\nway +4 -4 +1 +2 +4 +3 +0 -0 -3 -4 -2 -1\nway +1 +0 -0 -1 +0 +3 -3 -0", 4001),
    ("door -bs b-s bs- 12 02 10\nplain\nway +1 +0 -0 +0 -0 +0 -0 +0 -0 +0 -0 +0 -0 -1 +0 -0\n"
     "way +1 +0 -0 -1 +0 +1 -1 +1 -1 +1 -1 +1 -1 +1 -1 -0\nway +1 -1 +1 -1 +0 +1 -1 +1 -1 -0", 4002),
)


def rude_house(draw):
    """A drawn house of few hands that mostly stand or bow to one another as they like."""
    hands = draw.choice((2, 2, 3))
    rows = ["".join("-" if i == j else draw.choice("sb") for j in range(hands)) for i in range(hands)]
    rooms = (door_by(rows),) + tuple(draw.choice((None, drawn_door(draw, hands))) for _ in range(draw.randint(0, 2)))
    ways = tuple(draw.choice((SHORT, drawn_way(draw, len(rooms), draw.choice((2, 4, 6))))) for _ in range(hands))
    return (rooms, ways)


def drawn(seed, many):
    """Drawn small houses with the goings-through of all their standings, of 2500 at most."""
    draw = random.Random(seed)
    found = []
    while len(found) < many:
        house = small_house(draw, len(found) % 3 + 1)
        if len(found) % 2:
            house = rude_house(draw)
        try:
            found.append((house, Through(house, 2500)))
        except TooWide:
            continue
    return found


class StandingsOf(Case):
    def test_known_houses(self):
        for name, many, wanted in (
                ("table", 2, 19), ("table", 3, 87), ("table", 4, 391), ("table", 5, 1743), ("row", 2, 16),
                ("row", 3, 44), ("ranked", 2, 23), ("ranked", 3, 257), ("level", 2, 34), ("level", 3, 755),
                ("meek", 2, 35), ("proud", 2, 15)):
            self.assertEqual(wanted, len(self.answer(standings_of, known(name, many))))
        self.assertEqual(58, len(standings_of(NESTED)))
        self.tells((((((0, "go", 0),), ()), (((0, "rest", 0),), ()), (((1, "go", 0),), ()))), standings_of,
                   ((None,), (SHORT,)))

    def test_against_a_going_through(self):
        for house, through in drawn(261, 70):
            self.tells(tuple(sorted(through.standings)), standings_of, house)
            for standing in standings_of(house):
                self.assertIsNone(standing_error(house, standing))
                self.assertTrue(all(len(hands) < 2 for hands in inside(house, standing)))

    def test_just_as_many_and_one_more(self):
        for text, many in AS_MANY:
            house = read_house(text)
            self.assertEqual(many, len(Through(house).standings))
            if many > 4000:
                self.raises(TooMany(4000), standings_of, house)
                self.raises(TooMany(4000), nearest, house, start(house))
                self.raises(TooMany(4000), nearest, house, drawn_standing(random.Random(0), house))
            else:
                self.assertEqual(many, len(self.answer(standings_of, house)))
                self.tells((), nearest, house, start(house))

    def test_refused(self):
        for house in (known("level", 4), known("meek", 5), ((None,) * 6, (SHORT * 12,) * 3)):
            self.raises(TooMany(4000), standings_of, house)
            self.raises(TooMany(4000), nearest, house, start(house))
            self.raises(TooMany(4000), nearest, house, drawn_standing(random.Random(1), house))

    def test_rooms_called_otherwise(self):
        draw = random.Random(262)
        for house, _ in drawn(263, 40):
            names = drawn_names(draw, house)
            other = renamed(house, names)
            wanted = [(spots, tuple(sorted((names[room], i, j, who) for room, i, j, who in tokens)))
                      for spots, tokens in standings_of(house)]
            self.tells(tuple(sorted(wanted)), standings_of, other)

    def test_great_houses(self):
        draw = random.Random(264)
        began = time.time()
        for _ in range(12):
            house = drawn_house(draw, hands=5, many=6)
            self.ask(standings_of, house)
            self.ask(nearest, house, drawn_standing(draw, house))
        self.assertLess(time.time() - began, 60)


class Nearest(Case):
    def test_ordinary(self):
        crossed = self.answer(nearest, CROSSED, (((1, "go", 0), (1, "go", 0)), ()))
        self.assertEqual([0, 0, 1, 1], sorted(crossed))
        self.tells((0,) * 8, nearest, NESTED, (((0, "rest", 0), (0, "rest", 0)), ((0, 0, 1, 1),)))
        self.tells((), nearest, CROSSED, start(CROSSED))
        self.tells(None, nearest, known("level", 2), (((1, "go", 0), (1, "go", 0)), ((0, 0, 1, 1),)))
        self.tells(None, nearest, CROSSED, (((3, "go", 0), (3, "go", 0)), ()))
        self.tells((0,) * 20, nearest, ((None,), (SHORT * 12,)), (((19, "go", 0),), ()))

    def farness(self, through):
        """For each standing the number of steps of a shortest run to it."""
        far, row = {0: 0}, [0]
        for number in row:
            for _, _, behind_it in through.steps[number]:
                if behind_it not in far:
                    far[behind_it] = far[number] + 1
                    row.append(behind_it)
        return far

    def test_against_a_going_through(self):
        draw = random.Random(265)
        for house, through in drawn(266, 40):
            far = self.farness(through)
            for standing in draw.sample(through.standings, min(8, len(through.standings))):
                run = self.answer(nearest, house, standing)
                self.assertEqual(far[through.numbers[standing]], len(run))
                self.assertLess(len(run), len(through.standings))
                self.assertEqual(standing, behind(house, start(house), run))
                self.assertIsNone(first_double(house, start(house), run))
            for _ in range(6):
                standing = drawn_standing(draw, house)
                if standing in through.numbers:
                    self.assertEqual(standing, retold.behind(house, start(house), nearest(house, standing)))
                else:
                    self.tells(None, nearest, house, standing)

    def test_all_tokens(self):
        house = known("level", 3)
        through = Through(house)
        seen = 0
        for standing in standings_of(house)[::25]:
            for path in parts(standing[1]):
                if len(path) == 2 and path[1] == 3:
                    room, one, other, who = standing[1][path[0]]
                    tokens = list(standing[1])
                    tokens[path[0]] = (room, one, other, one + other - who)
                    moved = (standing[0], tuple(tokens))
                    self.assertEqual(moved in through.numbers, self.answer(nearest, house, moved) is not None)
                    seen += moved not in through.numbers
        self.assertGreater(seen, 5)
