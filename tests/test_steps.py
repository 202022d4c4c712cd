"""Steps: B2, B5."""

import random
import unittest

from roomways.errors import Unfit
from roomways.knownhouses import known
from roomways.standings import start
from roomways.steps import barred, movers, next_step, stepped
from tests import retold
from tests.support import Case, changed, drawn_houses, drawn_standing

SHORT = (("in", 0), ("out", 0))
ONCE = (("in", 0), ("in", 1), ("out", 1), ("out", 0))
BACK = (("in", 1), ("in", 0), ("out", 0), ("out", 1))
EVEN = ((("-", "even"), ("even", "-")), ((1,), (0,)))
OVER = ((("-", "stand"), ("bow", "-")), ((1,), (0,)))
REST = (0, "rest", 0)
# At this door 0 is even with 1 and 2, 1 stands to 2, and 2 bows to 1; orders descend.
THREE = (
    (("-", "even", "even"), ("even", "-", "stand"), ("even", "bow", "-")),
    ((2, 1), (2, 0), (1, 0)),
)
HOUSE = ((THREE,), (SHORT,) * 3)
TOKENS = ((0, 0, 1, 0), (0, 0, 2, 2))


class Steps(Case):
    def check(self, word, spot, tokens, house, standing, hand):
        """The next step of hand is of this word, and leads to this spot and these tokens."""
        self.tells(word, next_step, house, standing, hand)
        if word is None:
            self.raises(Unfit(), stepped, house, standing, hand)
        else:
            self.tells((changed(standing[0], (hand,), spot), tokens), stepped, house, standing, hand)
        self.assertEqual(word is not None, hand in movers(house, standing))
        self.assertEqual(word is None, hand in [item[0] for item in barred(house, standing)])

    def test_rest(self):
        for house in (HOUSE, known("table", 4), ((None,), (SHORT,))):
            for hand in range(len(house[1])):
                self.check("begin", (0, "go", 0), start(house)[1], house, start(house), hand)

    def test_leave(self):
        house = ((None, OVER), (ONCE, ONCE))
        self.check("leave", (3, "go", 0), (), house, (((2, "go", 0), REST), ()), 0)
        self.check("leave", REST, (), house, (((3, "go", 0), REST), ()), 0)
        self.check("leave", REST, (), house, (((3, "go", 0), (3, "go", 0)), ()), 1)
        self.check("leave", REST, TOKENS, HOUSE, ((REST, (1, "go", 0), REST), TOKENS), 1)

    def test_plain_rooms(self):
        house = ((None, None), (ONCE, BACK, SHORT))
        self.check("enter", (1, "go", 0), (), house, (((0, "go", 0), (1, "go", 0), REST), ()), 0)
        self.check("enter", (2, "go", 0), (), house, (((1, "go", 0), (0, "go", 0), REST), ()), 0)
        self.check(None, None, None, house, (((1, "go", 0), (1, "go", 0), REST), ()), 0)
        self.check(None, None, None, house, (((1, "go", 0), (1, "go", 0), REST), ()), 1)
        self.check(None, None, None, house, ((REST, (2, "go", 0), (0, "go", 0)), ()), 2)
        self.tells(((0, 1, 1), (1, 0, 0)), barred, house, (((1, "go", 0), (1, "go", 0), REST), ()))
        self.tells(((2, 0, 0),), barred, house, (((3, "go", 0), (3, "go", 0), (0, "go", 0)), ()))
        # Such a standing does not come: two hold the room, and the least one is told.
        self.tells(((2, 0, 0),), barred, house, (((2, "go", 0), (2, "go", 0), (0, "go", 0)), ()))
        self.tells(((0, 0, 1),), barred, house, (((0, "go", 0), (2, "go", 0), (1, "go", 0)), ()))

    def test_a_door_with_one_hand(self):
        house = ((((("-",),), ((),)),), (SHORT * 2,))
        self.check("enter", (1, "go", 0), (), house, (((0, "go", 0),), ()), 0)
        self.check("leave", (2, "go", 0), (), house, (((1, "go", 0),), ()), 0)
        self.check("enter", (3, "go", 0), (), house, (((2, "go", 0),), ()), 0)
        self.check("leave", REST, (), house, (((3, "go", 0),), ()), 0)

    def test_raise(self):
        self.check("raise", (0, "hand", 0), TOKENS, HOUSE, (((0, "go", 0), REST, REST), TOKENS), 0)
        self.check("raise", (0, "hand", 0), TOKENS, HOUSE, ((REST, (1, "go", 0), (0, "go", 0)), TOKENS), 2)
        house = ((OVER,), (SHORT, SHORT))
        for other in (REST, (1, "go", 0)):
            self.check("raise", (0, "look", 0), (), house, (((0, "go", 0), other), ()), 0)

    def test_hand(self):
        spots = ((0, "hand", 0), (0, "hand", 0), (0, "hand", 0))
        self.check("hand", (0, "hand", 1), ((0, 0, 1, 1), (0, 0, 2, 2)), HOUSE, (spots, TOKENS), 0)
        self.check("hand", (0, "look", 0), TOKENS, HOUSE, (spots, TOKENS), 1)
        self.check("hand", (0, "look", 0), ((0, 0, 1, 0), (0, 0, 2, 0)), HOUSE, (spots, TOKENS), 2)
        spots = changed(spots, (0, 2), 1)
        self.check("hand", (0, "look", 0), TOKENS, HOUSE, (spots, TOKENS), 0)
        self.check("hand", (0, "look", 0), TOKENS, HOUSE, (spots, changed(TOKENS, (1, 3), 0)), 0)

    def test_tokens_of_other_rooms_and_hands_stay(self):
        house = ((EVEN, EVEN), (ONCE, BACK))
        tokens = ((0, 0, 1, 0), (1, 0, 1, 0))
        self.check("hand", (0, "look", 0), ((0, 0, 1, 1), (1, 0, 1, 0)), house, (((0, "hand", 0), REST), tokens), 0)
        self.check("hand", (1, "look", 0), ((0, 0, 1, 0), (1, 0, 1, 1)), house, (((1, "hand", 0), REST), tokens), 0)

    def test_look_at_flags_that_are_down(self):
        for other in (REST, (0, "go", 0), (0, "low", 0)):
            spots = (REST, (0, "look", 0), other)
            self.check("look", (0, "look", 1), TOKENS, HOUSE, (spots, TOKENS), 1)
        for other in (REST, (0, "go", 0)):
            spots = (other, (0, "look", 1), REST)
            self.check("enter", (1, "go", 0), TOKENS, HOUSE, (spots, changed(TOKENS, (0, 3), 0)), 1)

    def test_look_at_even_ones(self):
        for word, number in (("look", 0), ("look", 1), ("hand", 0), ("hand", 1)):
            for who in (0, 1):
                passes = who == 1 and word == "look"
                standing = (((0, word, number), (0, "look", 1), REST), changed(TOKENS, (0, 3), who))
                self.check("enter" if passes else None, (1, "go", 0), standing[1], HOUSE, standing, 1)
                if not passes:
                    self.assertIn((1, 0, 0), barred(HOUSE, standing))
        within = (((1, "go", 0), (0, "look", 1), REST), TOKENS)
        self.check(None, None, None, HOUSE, within, 1)
        self.check("enter", (1, "go", 0), changed(TOKENS, (0, 3), 1), HOUSE, changed(within, (1, 0, 3), 1), 1)

    def test_the_token_of_others_does_not_help(self):
        house = known("level", 3)
        spots = ((0, "look", 0), (0, "look", 0), (0, "look", 0))
        self.check("look", (0, "look", 1), ((0, 0, 1, 0), (0, 0, 2, 2), (0, 1, 2, 1)), house,
                   (spots, ((0, 0, 1, 0), (0, 0, 2, 2), (0, 1, 2, 1))), 0)
        self.check(None, None, None, house, (spots, ((0, 0, 1, 1), (0, 0, 2, 0), (0, 1, 2, 1))), 0)

    def test_look_at_those_to_whom_it_stands(self):
        for other in ((0, "look", 0), (0, "yield", 0), (1, "go", 0), (0, "look", 1), (0, "hand", 0)):
            standing = ((REST, (0, "look", 0), other), TOKENS)
            self.check(None, None, None, HOUSE, standing, 1)
            self.assertIn((1, 0, 2), barred(HOUSE, standing))

    def test_look_at_those_to_whom_it_bows(self):
        for other in ((0, "look", 0), (1, "go", 0), (0, "look", 1), (0, "hand", 0)):
            self.check("yield", (0, "yield", 0), TOKENS, HOUSE, ((REST, other, (0, "look", 0)), TOKENS), 2)

    def test_yield_low_and_see(self):
        for other in (REST, (0, "go", 0), (0, "look", 0), (1, "go", 0), (0, "hand", 0)):
            self.check("lower", (0, "low", 0), TOKENS, HOUSE, ((REST, other, (0, "yield", 0)), TOKENS), 2)
        for other in (REST, (0, "go", 0)):
            self.check("see", (0, "go", 0), TOKENS, HOUSE, ((REST, other, (0, "low", 0)), TOKENS), 2)
        for other in ((0, "look", 1), (0, "hand", 0), (1, "go", 0)):
            standing = ((REST, other, (0, "low", 0)), TOKENS)
            self.check(None, None, None, HOUSE, standing, 2)
            self.tells(((2, 0, 1),), barred, HOUSE, standing)

    def test_later_numbers_are_kept(self):
        house = known("meek", 4)
        for number in (0, 1, 2):
            other = [hand for hand in range(4) if hand != 1][number]
            spots = changed((REST,) * 4, (other,), (1, "go", 0))
            self.check("yield", (0, "yield", number), (), house, (changed(spots, (1,), (0, "look", number)), ()), 1)
            self.check("lower", (0, "low", number), (), house, (changed(spots, (1,), (0, "yield", number)), ()), 1)
            low = (changed(spots, (1,), (0, "low", number)), ())
            self.check(None, None, None, house, low, 1)
            self.tells(((1, 0, other),), barred, house, low)
            seen = changed(low, (0, other), REST)
            self.check("see", (0, "go", 0), (), house, seen, 1)

    def test_movers_and_barred_together(self):
        house = known("proud", 5)
        spots = ((0, "look", 0), (0, "look", 1), (0, "look", 2), (1, "go", 0), REST)
        self.tells((3, 4), movers, house, (spots, ()))
        self.tells(((0, 0, 1), (1, 0, 2), (2, 0, 3)), barred, house, (spots, ()))
        self.tells((0, 1, 2, 3, 4), movers, house, start(house))
        self.tells((), barred, house, start(house))
        stuck = ((1, "go", 0),) * 4
        self.tells((), movers, known("table", 4), (stuck, ()))
        self.tells(((0, 1, 1), (1, 2, 2), (2, 3, 3), (3, 0, 0)), barred, known("table", 4), (stuck, ()))

    def test_drawn_standings(self):
        draw = random.Random(30)
        for house in drawn_houses(30, 90, most=8) + drawn_houses(31, 60, most=6, doors=1):
            for _ in range(4):
                standing = drawn_standing(draw, house, draw.choice((0.4, 0.9)))
                self.agrees(retold.movers, movers, house, standing)
                self.agrees(retold.barred, barred, house, standing)
                for hand in range(len(house[1])):
                    self.agrees(retold.next_step, next_step, house, standing, hand)
                    self.agrees(retold.stepped, stepped, house, standing, hand)

    def test_answers_stay_whatever_is_asked_between(self):
        draw = random.Random(32)
        asked = [(house, drawn_standing(draw, house)) for house in drawn_houses(32, 40, most=6)]
        ahead = [(movers(*pair), barred(*pair), next_step(*pair, 0)) for pair in asked]
        behind = [(movers(*pair), barred(*pair), next_step(*pair, 0)) for pair in reversed(asked)]
        self.assertEqual(ahead, behind[::-1])


if __name__ == "__main__":
    unittest.main()
