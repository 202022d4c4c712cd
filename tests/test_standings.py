"""Standings: B1, B3, B4."""

import random
import unittest

from roomways.knownhouses import known, known_names
from roomways.standings import flag, inside, standing_error, start, token
from tests import retold
from tests.support import STRANGE, Case, changed, drawn_house, drawn_houses, drawn_standing
from tests.support import part, parts, shape, variants

SHORT = (("in", 0), ("out", 0))
ONCE = (("in", 0), ("in", 1), ("out", 1), ("out", 0))
BACK = (("in", 1), ("in", 0), ("out", 0), ("out", 1))
EVEN = ((("-", "even"), ("even", "-")), ((1,), (0,)))
OVER = ((("-", "stand"), ("bow", "-")), ((1,), (0,)))
ALONE = (((((("-",),), ((),)), None)), (ONCE,))
NESTED = ((EVEN, OVER), (ONCE, ONCE))
# 0 is even with 1 and 3, bows to 2, and looks at 3, 2 and 1; 1 bows to all but 0.
FOUR = (
    (
        ("-", "even", "bow", "even"),
        ("even", "-", "bow", "bow"),
        ("stand", "stand", "-", "even"),
        ("even", "bow", "even", "-"),
    ),
    ((3, 2, 1), (0, 3, 2), (0, 1, 3), (2, 0, 1)),
)
MANY = ((None, FOUR, FOUR), (ONCE, (("in", 1), ("out", 1), ("in", 2), ("out", 2)), SHORT, (("in", 2), ("out", 2))))
LARGE = drawn_house(random.Random(20), hands=5, many=6, doors=1)
RESTS = ((0, "rest", 0),)


def numbers_that_fit(house, hand, place, word):
    """The numbers from -1 to 6 with which such a spot of hand is none that standing_error refuses."""
    told = []
    for number in range(-1, 7):
        spots = changed(start(house)[0], (hand,), (place, word, number))
        if standing_error(house, (spots, start(house)[1])) is None:
            told.append(number)
    return told


class Start(Case):
    def test_by_hand(self):
        self.tells((RESTS, ()), start, ALONE)
        self.tells((RESTS * 2, ()), start, ((None, None), (ONCE, BACK)))
        self.tells((RESTS * 2, ((0, 0, 1, 0),)), start, NESTED)
        tokens = tuple((room, i, j, i) for room in (1, 2) for i, j in ((0, 1), (0, 3), (2, 3)))
        self.tells((RESTS * 4, tokens), start, MANY)
        tokens = ((0, 0, 1, 0), (0, 0, 2, 0), (0, 1, 2, 1))
        self.tells((RESTS * 3, tokens), start, known("level", 3))

    def test_houses(self):
        for house in drawn_houses(21, 60, most=6) + [LARGE, MANY]:
            self.agrees(retold.start, start, house)
            self.tells(None, standing_error, house, start(house))


class StandingError(Case):
    def test_form(self):
        spots, tokens = start(NESTED)
        for value in (None, (), (spots,), (spots, tokens, ()), [spots, tokens], (list(spots), tokens),
                      (spots, list(tokens)), "rest, rest; 0", ("", ""), (spots, None), {0: spots, 1: tokens}):
            self.tells("form", standing_error, NESTED, value)

    def test_spots(self):
        tokens = start(NESTED)[1]
        for many in (0, 1, 3, 9):
            self.tells("spots", standing_error, NESTED, (RESTS * many, tokens))
        self.tells("spots", standing_error, NESTED, ((None,), ()))

    def test_rest_and_go(self):
        house = ((None, None), (ONCE, SHORT))
        for place in range(-1, 7):
            wanted = None if 0 <= place < 4 else ("spot", 0)
            self.tells(wanted, standing_error, house, (((place, "go", 0), (0, "rest", 0)), ()))
            wanted = None if 0 <= place < 2 else ("spot", 1)
            self.tells(wanted, standing_error, house, (((0, "rest", 0), (place, "go", 0)), ()))
            wanted = None if place == 0 else ("spot", 0)
            self.tells(wanted, standing_error, house, (((place, "rest", 0), (0, "rest", 0)), ()))
        for number in (-1, 1, 2, False, None, "0"):
            for word in ("rest", "go"):
                self.tells(("spot", 0), standing_error, house, (((0, word, number), (0, "rest", 0)), ()))

    def test_numbers_at_an_entry(self):
        self.assertEqual([0, 1], numbers_that_fit(MANY, 0, 1, "hand"))
        self.assertEqual([0, 1, 2], numbers_that_fit(MANY, 0, 1, "look"))
        self.assertEqual([1], numbers_that_fit(MANY, 0, 1, "yield"))
        self.assertEqual([1], numbers_that_fit(MANY, 0, 1, "low"))
        for place in (0, 2):
            self.assertEqual([0], numbers_that_fit(MANY, 1, place, "hand"))
            self.assertEqual([0, 1, 2], numbers_that_fit(MANY, 1, place, "look"))
            self.assertEqual([1, 2], numbers_that_fit(MANY, 1, place, "yield"))
            self.assertEqual([1, 2], numbers_that_fit(MANY, 1, place, "low"))
        self.assertEqual([0, 1], numbers_that_fit(MANY, 3, 0, "hand"))
        self.assertEqual([2], numbers_that_fit(MANY, 3, 0, "low"))
        for word in ("hand", "look", "yield", "low"):
            # The room 0 is plain; the other places have steps that leave.
            for hand, place in ((0, 0), (0, 2), (0, 3), (1, 1), (1, 3), (2, 0), (2, 1), (3, 1)):
                self.assertEqual([], numbers_that_fit(MANY, hand, place, word))

    def test_one_hand(self):
        for word in ("hand", "look", "yield", "low"):
            for place in range(4):
                self.assertEqual([], numbers_that_fit(ALONE, 0, place, word))
        for place in range(4):
            self.assertEqual([0], numbers_that_fit(ALONE, 0, place, "go"))

    def test_five_hands(self):
        house = known("level", 5)
        self.assertEqual([0, 1, 2, 3], numbers_that_fit(house, 4, 0, "hand"))
        self.assertEqual([0, 1, 2, 3], numbers_that_fit(house, 4, 0, "look"))
        self.assertEqual([], numbers_that_fit(house, 4, 0, "yield"))
        house = known("meek", 5)
        self.assertEqual([], numbers_that_fit(house, 2, 0, "hand"))
        self.assertEqual([0, 1, 2, 3], numbers_that_fit(house, 2, 0, "low"))
        self.assertEqual([0, 1, 2, 3], numbers_that_fit(house, 2, 0, "yield"))

    def test_other_words(self):
        for word in ("", "Rest", "go ", "enter", "raise", "in", "out", "even", "bow", None, 0, ("go",), ["go"], {}):
            self.tells(("spot", 1), standing_error, NESTED, (((0, "look", 0), (0, word, 0)), ((0, 0, 1, 0),)))

    def test_spots_are_triples(self):
        for spot in ((), (0, "go"), (0, "go", 0, 0), [0, "go", 0], "go0", None, ("go", 0, 0), (0, 0, "go"),
                     ((0, "go", 0),)):
            self.tells(("spot", 0), standing_error, NESTED, ((spot, (0, "rest", 0)), ((0, 0, 1, 0),)))
            self.tells(("spot", 1), standing_error, NESTED, (((0, "rest", 0), spot), ()))

    def test_bools(self):
        for spot in ((False, "rest", 0), (0, "rest", False), (True, "go", 0), (1, "go", False), (0, "look", False),
                     (False, "look", 0), (0, "hand", False)):
            self.tells(("spot", 0), standing_error, NESTED, ((spot, (0, "rest", 0)), ((0, 0, 1, 0),)))
        for t in ((False, 0, 1, 0), (0, False, 1, 0), (0, 0, True, 0), (0, 0, 1, False), (0, 0, 1, True)):
            self.tells(("token", 0), standing_error, NESTED, (RESTS * 2, (t,)))

    def test_tokens(self):
        tokens = start(MANY)[1]
        self.assertEqual(6, len(tokens))
        for wrong in ((), tokens[:-1], tokens[1:], tokens + tokens[-1:], tokens + ((2, 2, 3, 3),)):
            self.tells("tokens", standing_error, MANY, (RESTS * 4, wrong))
        self.tells("tokens", standing_error, ((None,), (SHORT, SHORT)), (RESTS * 2, ((0, 0, 1, 0),)))
        for place, (room, i, j, who) in enumerate(tokens):
            for new in range(-1, 6):
                wanted = None if new in (i, j) else ("token", place)
                self.tells(wanted, standing_error, MANY, (RESTS * 4, changed(tokens, (place, 3), new)))
            for new in ((room, j, i, who), (room + 1, i, j, who), (room, i, j), (room, i, j, who, 0), [room, i, j, who],
                        None, (), ((room, i, j), who)):
                self.tells(("token", place), standing_error, MANY, (RESTS * 4, changed(tokens, (place,), new)))
        for place in range(5):
            turned = tokens[:place] + (tokens[place + 1], tokens[place]) + tokens[place + 2:]
            self.tells(("token", place), standing_error, MANY, (RESTS * 4, turned))

    def test_the_first_of_several_faults(self):
        self.tells(("spot", 0), standing_error, MANY, (((0, "rest", 1), None, None, None), ()))
        self.tells(("spot", 2), standing_error, MANY, (RESTS * 2 + ((2, "go", 0), (0, "no", 0)), (None,) * 6))
        self.tells("tokens", standing_error, MANY, (RESTS * 4, (None,) * 5))
        self.tells(("token", 1), standing_error, MANY, (RESTS * 4, start(MANY)[1][:1] + (None,) * 5))

    def test_strange_values_at_each_depth(self):
        draw = random.Random(22)
        for house in (ALONE, NESTED, MANY):
            for value in STRANGE:
                self.agrees(retold.standing_error, standing_error, house, value)
            standing = drawn_standing(draw, house)
            for path in parts(standing):
                for value in variants(standing, path):
                    self.agrees(retold.standing_error, standing_error, house, value)

    def test_drawn_standings(self):
        draw = random.Random(23)
        for house in drawn_houses(23, 60, most=8) + [LARGE]:
            for _ in range(4):
                standing = drawn_standing(draw, house)
                self.tells(None, standing_error, house, standing)
                for _ in range(6):
                    path = draw.choice([path for path in parts(standing) if type(part(standing, path)) is not tuple])
                    new = draw.choice((0, 1, 2, 3, 4, "go", "rest", "hand", "look", "yield", "low"))
                    self.agrees(retold.standing_error, standing_error, house, changed(standing, path, new))

    def test_each_spot(self):
        for house in drawn_houses(24, 12, most=6):
            for hand in range(len(house[1])):
                fitting = retold.all_spots(house, hand)
                for place in range(-1, len(house[1][hand]) + 1):
                    for word in ("rest", "go", "hand", "look", "yield", "low"):
                        wanted = [k for k in range(-1, 7) if (place, word, k) in fitting]
                        self.assertEqual(wanted, numbers_that_fit(house, hand, place, word))

    def test_lists_in_a_value_stay_as_they_are(self):
        value = (([0, "rest", 0], (0, "rest", 0)), ())
        ahead = shape(value)
        self.tells(("spot", 0), standing_error, NESTED, value)
        self.assertEqual(ahead, shape(value))


class Looks(Case):
    def test_inside(self):
        house = ((None,) * 3, (ONCE, BACK, SHORT))
        self.tells(((), (), ()), inside, house, start(house))
        self.tells(((0, 1, 2), (0, 1), ()), inside, house, (((2, "go", 0), (2, "go", 0), (1, "go", 0)), ()))
        self.tells(((0,), (1,), ()), inside, house, (((1, "go", 0), (1, "go", 0), (0, "go", 0)), ()))
        self.tells(((0,), ()), inside, NESTED, (((1, "look", 0), (0, "look", 0)), ((0, 0, 1, 0),)))
        self.tells(((0,), (0,)), inside, ALONE, (((2, "go", 0),), ()))

    def test_flags(self):
        wanted = {"rest": "down", "go": "down", "hand": "half", "look": "up", "yield": "up", "low": "down"}
        tokens = start(MANY)[1]
        for word, colour in wanted.items():
            place = 0 if word == "rest" else 1
            number = 1 if word in ("yield", "low") else 0
            standing = (((place, word, number), (0, "rest", 0), (0, "rest", 0), (0, "rest", 0)), tokens)
            self.tells(None, standing_error, MANY, standing)
            self.tells(colour, flag, MANY, standing, 1, 0)
            self.tells("down", flag, MANY, standing, 2, 0)
            self.tells("up" if place else "down", flag, MANY, standing, 0, 0)
            self.tells("down", flag, MANY, standing, 1, 1)

    def test_flags_of_those_within(self):
        standing = (((2, "go", 0), (1, "go", 0), (1, "go", 0), (1, "go", 0)), start(MANY)[1])
        told = [[flag(MANY, standing, room, hand) for hand in range(4)] for room in range(3)]
        wanted = [["up", "down", "up", "down"], ["up", "up", "down", "down"], ["down", "down", "down", "up"]]
        self.assertEqual(wanted, told)
        self.tells("up", flag, ALONE, (((1, "go", 0),), ()), 0, 0)
        self.tells("down", flag, ALONE, (((1, "go", 0),), ()), 1, 0)
        self.tells("down", flag, ALONE, (((0, "go", 0),), ()), 0, 0)

    def test_tokens(self):
        tokens = tuple(t[:3] + (t[k % 2 + 1],) for k, t in enumerate(start(MANY)[1]))
        standing = (RESTS * 4, tokens)
        self.tells(0, token, MANY, standing, 1, 0, 1)
        self.tells(0, token, MANY, standing, 1, 1, 0)
        self.tells(3, token, MANY, standing, 1, 0, 3)
        self.tells(2, token, MANY, standing, 1, 3, 2)
        self.tells(1, token, MANY, standing, 2, 1, 0)
        self.tells(0, token, MANY, standing, 2, 3, 0)
        self.tells(3, token, MANY, standing, 2, 2, 3)
        self.tells(None, token, MANY, standing, 1, 1, 2)
        self.tells(None, token, MANY, standing, 1, 3, 1)
        self.tells(None, token, MANY, standing, 0, 0, 1)

    def test_drawn_standings(self):
        draw = random.Random(25)
        for house in drawn_houses(25, 60, most=8) + [LARGE, MANY]:
            hands = range(len(house[1]))
            for _ in range(2):
                standing = drawn_standing(draw, house)
                self.agrees(retold.inside, inside, house, standing)
                for room in range(len(house[0])):
                    for hand in hands:
                        self.agrees(retold.flag, flag, house, standing, room, hand)
                    for one, other in [(one, other) for one in hands for other in hands if one != other]:
                        self.agrees(retold.token, token, house, standing, room, one, other)

    def test_answers_stay_whatever_is_asked_between(self):
        draw = random.Random(26)
        asked = [(house, drawn_standing(draw, house)) for house in drawn_houses(26, 30, most=6)]
        asked += [(known(name, 3), start(known(name, 3))) for name in known_names()]
        ahead = [(inside(*pair), flag(*pair, 0, 0), standing_error(*pair)) for pair in asked]
        behind = [(inside(*pair), flag(*pair, 0, 0), standing_error(*pair)) for pair in reversed(asked)]
        self.assertEqual(ahead, behind[::-1])


if __name__ == "__main__":
    unittest.main()
