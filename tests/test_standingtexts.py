"""The texts of standings: B6."""

import random
import unittest

from roomways.errors import BadText
from roomways.knownhouses import known
from roomways.standings import start
from roomways.standingtexts import read_standing, standing_text
from tests import retold
from tests.support import STRANGE, Case, drawn_houses, drawn_standing

SHORT = (("in", 0), ("out", 0))
ONCE = (("in", 0), ("in", 1), ("out", 1), ("out", 0))
EVEN = ((("-", "even"), ("even", "-")), ((1,), (0,)))
OVER = ((("-", "stand"), ("bow", "-")), ((1,), (0,)))
NESTED = ((EVEN, OVER), (ONCE, ONCE))
PLAIN = ((None, None), (ONCE, ONCE))
LONG = ((EVEN, None), (SHORT * 12, SHORT * 6))
TOKEN = ((0, 0, 1, 1),)


def spoiled(text):
    """Texts with a sign put in, left out, exchanged or doubled at each place, and with a blank at the end."""
    told = [text + " ", " " + text, text + "\n", text + ";", text + "; ", text + ", ", text * 2]
    for place in range(len(text) + 1):
        for sign in " ,;0123459-+_\nagolrest":
            told.append(text[:place] + sign + text[place:])
            told.append(text[:place] + sign + text[place + 1:])
        told.append(text[:place] + text[place + 1:])
        told.append(text[:place] + text[place:place + 1] + text[place:])
    return told


class StandingText(Case):
    def test_by_hand(self):
        self.tells("rest, rest", standing_text, PLAIN, start(PLAIN))
        self.tells("rest", standing_text, ((None,), (SHORT,)), start(((None,), (SHORT,))))
        self.tells("rest, rest; 0", standing_text, NESTED, start(NESTED))
        self.tells("go 0, go 3", standing_text, PLAIN, (((0, "go", 0), (3, "go", 0)), ()))
        self.tells("look 1 0, hand 0 0; 1", standing_text, NESTED, (((1, "look", 0), (0, "hand", 0)), TOKEN))
        self.tells("go 2, yield 1 0; 1", standing_text, NESTED, (((2, "go", 0), (1, "yield", 0)), TOKEN))
        self.tells("go 2, low 1 0; 1", standing_text, NESTED, (((2, "go", 0), (1, "low", 0)), TOKEN))
        self.tells("go 23, look 10 0; 1", standing_text, LONG, (((23, "go", 0), (10, "look", 0)), TOKEN))
        tokens = ((0, 0, 1, 1), (0, 0, 2, 0), (0, 1, 2, 2))
        self.tells("rest, rest, hand 0 1; 1 0 2", standing_text, known("level", 3),
                   (((0, "rest", 0), (0, "rest", 0), (0, "hand", 1)), tokens))

    def test_drawn_standings(self):
        draw = random.Random(40)
        for house in drawn_houses(40, 90):
            standing = drawn_standing(draw, house)
            self.agrees(retold.standing_text, standing_text, house, standing)
            self.tells(standing, read_standing, house, standing_text(house, standing))

    def test_unlike_standings_have_unlike_texts(self):
        draw = random.Random(41)
        for house in drawn_houses(41, 12, most=6):
            standings = {drawn_standing(draw, house) for _ in range(100)}
            self.assertEqual(len(standings), len({standing_text(house, standing) for standing in standings}))


class ReadStanding(Case):
    def test_no_strings(self):
        for value in STRANGE + (start(NESTED), ["rest, rest; 0"], ("rest, rest; 0",)):
            self.raises(BadText(0), read_standing, NESTED, value)

    def test_each_spot(self):
        for house in drawn_houses(42, 12, most=8) + [LONG]:
            spots, tokens = start(house)
            for hand in range(len(house[1])):
                for spot in retold.all_spots(house, hand):
                    standing = (spots[:hand] + (spot,) + spots[hand + 1:], tokens)
                    self.tells(standing, read_standing, house, standing_text(house, standing))

    def test_numbers_beyond(self):
        for text in ("go 4, rest", "go -1, rest", "go 24, rest", "rest 0, rest", "rest 0 0, rest", "go, rest",
                     "go 0 0, rest", "go 1 0, rest", "look 0 0, rest", "hand 0 0, rest", "low 0 0, rest"):
            self.raises(BadText(0), read_standing, PLAIN, text)
        for text in ("look 0 1", "hand 0 1", "yield 0 0", "low 0 0", "look 2 0", "look 4 0", "hand 1 0", "yield 1 0",
                     "look 0", "look", "look 0 0 0", "hand 0 -1", "hand 0 00", "hand 00 0", "enter 0 0"):
            self.raises(BadText(0), read_standing, NESTED, text + ", rest; 0")

    def test_figures(self):
        for text in ("go 01, rest", "go 1, go 00", "go 1.0, rest", "go 1_0, rest", "go +1, rest", "go one, rest"):
            self.raises(BadText(0), read_standing, PLAIN, text)
        for text in ("rest, rest; 00", "rest, rest; 01", "rest, rest; 2", "rest, rest; -0", "rest, rest; ",
                     "rest, rest;", "rest, rest", "rest, rest;0", "rest, rest; 0 0", "rest, rest; 0 ",
                     "rest, rest;  0"):
            self.raises(BadText(0), read_standing, NESTED, text)
        self.tells(start(NESTED), read_standing, NESTED, "rest, rest; 0")

    def test_tokens_where_there_are_none(self):
        for text in ("rest, rest; 0", "rest, rest; ", "rest, rest;", "rest, rest; 0 1"):
            self.raises(BadText(0), read_standing, PLAIN, text)

    def test_numbers_of_spots(self):
        for text in ("", "rest", "rest, rest, rest", "rest,rest", "rest,  rest", "rest , rest", "rest, ", ", rest",
                     ", "):
            self.raises(BadText(0), read_standing, PLAIN, text)
            self.raises(BadText(0), read_standing, NESTED, text + "; 0")

    def test_tokens(self):
        house = known("level", 3)
        for text in ("0 0 1", "1 2 2", "0 2 1"):
            tokens = tuple(pair + (int(who),) for pair, who in zip(((0, 0, 1), (0, 0, 2), (0, 1, 2)), text.split()))
            self.tells((((0, "rest", 0),) * 3, tokens), read_standing, house, "rest, rest, rest; " + text)
        for text in ("0 0", "0 0 1 1", "2 0 1", "0 1 1", "0 0 0", "0, 0, 1", "001", "0 0 1 ", "0  0 1", "0; 0; 1",
                     "0\n0\n1"):
            self.raises(BadText(0), read_standing, house, "rest, rest, rest; " + text)

    def test_texts_as_long_as_they_may_be(self):
        figures = "1" * 19900
        for text in (figures, "go " + figures + ", rest; 0", "go 0, look 0 " + figures + "; 0",
                     "rest, rest; " + figures,
                     "rest, rest; " + "0 " * 9900, "rest, " * 3300, "rest, rest" + "; 0" * 6000, "0" * 20000,
                     "go " + "0" * 19900 + ", rest; 0", " " * 20000, "look " + figures + " 0, rest; 0"):
            self.raises(BadText(0), read_standing, NESTED, text)
            self.raises(BadText(0), read_standing, PLAIN, text)

    def test_spoiled_texts(self):
        for house, text in ((NESTED, "go 1, hand 0 0; 1"), (NESTED, "look 1 0, low 1 0; 0"), (PLAIN, "go 3, rest"),
                            (LONG, "look 12 0, go 11; 1"), (known("level", 3), "rest, look 0 1, hand 0 1; 0 2 1")):
            for value in spoiled(text):
                self.agrees(retold.read_standing, read_standing, house, value)

    def test_texts_of_other_houses(self):
        draw = random.Random(43)
        houses = drawn_houses(43, 30, most=6)
        for house in houses:
            for other in draw.sample(houses, 6):
                text = standing_text(other, drawn_standing(draw, other))
                self.agrees(retold.read_standing, read_standing, house, text)


if __name__ == "__main__":
    unittest.main()
