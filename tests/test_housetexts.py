"""The texts of houses: A7, and what A9 says of them."""

import random
import unittest

from roomways.errors import BadHouse, BadText
from roomways.housetexts import house_text, read_house
from tests import retold
from tests.support import STRANGE, Case, drawn_houses

SHORT = (("in", 0), ("out", 0))
ALONE = ((("-",),), ((),))
THREE = (
    (("-", "even", "bow"), ("even", "-", "stand"), ("stand", "bow", "-")),
    ((1, 2), (2, 0), (1, 0)),
)
HOUSE = ((None, THREE), (SHORT, (("in", 1), ("in", 0), ("out", 0), ("out", 1)), SHORT))
TEXT = "plain\ndoor -eb e-s sb- 12 20 10\nway +0 -0\nway +1 +0 -0 -1\nway +0 -0"


def spoiled(text):
    """Texts with a sign put in, left out, exchanged or doubled at each place."""
    told = []
    for place in range(len(text) + 1):
        for sign in "+-.sbe019 \nplx":
            told.append(text[:place] + sign + text[place:])
            told.append(text[:place] + sign + text[place + 1:])
        told.append(text[:place] + text[place + 1:])
        told.append(text[:place] + text[place:place + 1] + text[place:])
    return told


class HouseText(Case):
    def test_by_hand(self):
        self.tells(TEXT, house_text, HOUSE)
        self.tells("plain\nway +0 -0", house_text, ((None,), (SHORT,)))
        self.tells("door - .\nway +0 -0", house_text, ((ALONE,), (SHORT,)))
        self.tells("plain\n" * 6 + "way +5 -5", house_text, ((None,) * 6, ((("in", 5), ("out", 5)),)))
        self.tells("plain\nway" + " +0 -0" * 12, house_text, ((None,), (SHORT * 12,)))

    def test_drawn_houses(self):
        for house in drawn_houses(9, 120):
            self.agrees(retold.house_text, house_text, house)

    def test_texts_are_read_back(self):
        for house in drawn_houses(10, 120):
            self.tells(house, read_house, house_text(house))

    def test_unlike_houses_have_unlike_texts(self):
        houses = drawn_houses(11, 300, most=4)
        self.assertEqual(len(set(houses)), len(set(map(house_text, houses))))


class ReadHouse(Case):
    def test_by_hand(self):
        self.tells(HOUSE, read_house, TEXT)
        self.tells(((ALONE,), (SHORT,)), read_house, "door - .\nway +0 -0")

    def test_no_strings(self):
        for value in STRANGE + (HOUSE, [TEXT], (TEXT,), TEXT.split("\n")):
            if not isinstance(value, str):
                self.raises(BadText(0), read_house, value)

    def test_line_feeds(self):
        self.raises(BadText(5), read_house, TEXT + "\n")
        self.raises(BadText(0), read_house, "\n" + TEXT)
        self.raises(BadText(0), read_house, "")
        self.raises(BadText(0), read_house, "\n")
        self.raises(BadText(0), read_house, "\n" * 20000)
        self.raises(BadText(1), read_house, TEXT.replace("\n", "\n\n", 1))
        self.raises(BadText(1), read_house, "plain\n\nway +0")
        self.raises(BadText(2), read_house, TEXT.replace("\nway +0 -0\nway", "\n\nway"))

    def test_rooms_behind_ways(self):
        self.raises(BadText(2), read_house, "plain\nway +0 -0\nplain")
        self.raises(BadText(2), read_house, "plain\nway +0 -0\ndoor - .")
        self.raises(BadText(1), read_house, "way +0 -0\nplain")
        self.raises(BadText(2), read_house, "plain\nway +9 +9 +9\nplain\nway")

    def test_lines_that_are_none(self):
        for line in ("", "Plain", "plain ", " plain", "plains", "door", "door ", "door -", "door - ", "door -  .",
                     "door - . ", " door - .", "door  - .", "door . -", "door - . .", "door - - .", "door -e e- 1",
                     "door -e e- 1 0 0", "door -e e- 1 ..", "door -e e- 1 .0", "door -x x- 1 0", "door - 0-",
                     "door -e 1 e- 0", "door 1 0", "door - -", "door - - - -", "Door - .", "door\n- .", "doors - .",
                     "way", "way ", "way  +0 -0", "way +0 -0 ", " way +0 -0", "way +0  -0", "way +0-0", "way 0",
                     "way +", "way +00", "way +0 -", "way +a", "way +0 *0", "Way +0 -0", "way\n+0", "ways +0 -0",
                     "way +-0", "way + 0", "way 0+", "way ++", "+0 -0", "0", "way ~0", "door s- ~", "door -\t."):
            self.raises(BadText(0), read_house, line)
            self.raises(BadText(2), read_house, "plain\nplain\n" + line)
            self.raises(BadText(1), read_house, "plain\n" + line + "\nway +0 -0")

    def test_the_first_line_comes_ahead_of_houses(self):
        self.raises(BadText(3), read_house, "door -- 9\nway +9\nway -0\nwhat")
        self.raises(BadText(1), read_house, "plain\nwhat\nwhat else")

    def test_no_houses(self):
        self.raises(BadHouse("hands"), read_house, "plain")
        self.raises(BadHouse("rooms"), read_house, "way +0 -0")
        self.raises(BadHouse("rooms"), read_house, "plain\n" * 7 + "way +0 -0")
        self.raises(BadHouse("hands"), read_house, "plain" + "\nway +0 -0" * 6)
        self.raises(BadHouse(("room", 0, "rows")), read_house, "door -e e- 1 0\nway +0 -0")
        self.raises(BadHouse(("room", 0, ("row", 0))), read_house, "door s .\nway +0 -0")
        self.raises(BadHouse(("room", 0, ("row", 1))), read_house, "door -e ee 1 0" + "\nway +0 -0" * 2)
        self.raises(BadHouse(("room", 0, ("even", 0, 1))), read_house, "door -e b- 1 0" + "\nway +0 -0" * 2)
        self.raises(BadHouse(("room", 1, ("order", 1))), read_house, "plain\ndoor -e e- 1 1" + "\nway +0 -0" * 2)
        self.raises(BadHouse(("room", 0, ("order", 0))), read_house, "door -e e- . 0" + "\nway +0 -0" * 2)
        self.raises(BadHouse(("room", 0, ("order", 0))), read_house, "door - 0\nway +0 -0")
        self.raises(BadHouse(("way", 0, ("step", 0))), read_house, "plain\nway +9 -9")
        self.raises(BadHouse(("way", 0, "form")), read_house, "plain\nway +0")
        self.raises(BadHouse(("way", 0, "form")), read_house, "plain\nway" + " +0 -0" * 12 + " +0")
        self.raises(BadHouse(("way", 1, ("out", 0))), read_house, "plain\nway +0 -0\nway -0 +0")
        self.raises(BadHouse(("way", 0, ("in", 1))), read_house, "plain\nway +0 +0")
        self.raises(BadHouse(("way", 0, "held")), read_house, "plain\nplain\nway +0 +1 -1")

    def test_texts_as_long_as_they_may_be(self):
        self.raises(BadText(0), read_house, "1" * 20000)
        self.raises(BadHouse(("room", 0, ("order", 0))), read_house, "door - " + "1" * 19900 + "\nway +0 -0")
        self.raises(BadHouse(("room", 0, ("row", 0))), read_house, "door " + "-" * 19900 + " .\nway +0 -0")
        self.raises(BadHouse(("room", 0, "rows")), read_house, "door" + " -" * 4900 + " ." * 4900 + "\nway +0 -0")
        self.raises(BadText(0), read_house, "door" + " -" * 4900 + " ." * 4901)
        self.raises(BadHouse(("way", 0, "form")), read_house, "plain\nway" + " +0 -0" * 3000)
        self.raises(BadHouse("rooms"), read_house, "plain\n" * 3000 + "way +0 -0")
        self.raises(BadText(0), read_house, "way +" + "0" * 19000)

    def test_spoiled_texts(self):
        for value in spoiled("door -e e- 1 0\nway +0 -0\nway +0 -0") + spoiled("plain\ndoor - .\nway +0 +1 -1 -0"):
            self.agrees(retold.read_house, read_house, value)

    def test_drawn_spoiled_texts(self):
        draw = random.Random(12)
        for house in drawn_houses(12, 200, most=6):
            text = house_text(house)
            for _ in range(2):
                place = draw.randrange(len(text))
                text = text[:place] + draw.choice(["", "", " ", "\n", "0", "7", "-", "e", "\nplain"]) + text[place + 1:]
            self.agrees(retold.read_house, read_house, text)


class Calls(Case):
    def test_answers_stay_whatever_is_asked_between(self):
        houses = drawn_houses(13, 40, most=6)
        ahead = [(house_text(house), read_house(house_text(house))) for house in houses]
        behind = [(house_text(house), read_house(house_text(house))) for house in reversed(houses)]
        self.assertEqual(ahead, behind[::-1])


if __name__ == "__main__":
    unittest.main()
