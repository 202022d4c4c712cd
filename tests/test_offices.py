"""Offices: L1 to L3, and what L9 says of them."""

import random
import time

from roomways import offices
from roomways.errors import BadHouse, NothingToUndo, Refused, TooMany
from roomways.knownhouses import known
from roomways.offices import Office
from roomways.runs import behind, entered
from roomways.standings import inside, start
from roomways.steps import barred, movers, next_step
from roomways.stuckness import is_never_stuck
from roomways.together import meeting
from tests import retold
from tests import retold_offices as told
from tests.support import (STRANGE, Case, drawn_door, drawn_house, drawn_names, drawn_way, outcome, parts, rebuilt,
                           renamed, shape, small_house, variants)

SHORT = (("in", 0), ("out", 0))
ONCE = (("in", 0), ("in", 1), ("out", 1), ("out", 0))
BACK = (("in", 1), ("in", 0), ("out", 0), ("out", 1))
EVEN = ((("-", "even"), ("even", "-")), ((1,), (0,)))
OVER = ((("-", "stand"), ("bow", "-")), ((1,), (0,)))
CROSSED, NESTED = ((None, None), (ONCE, BACK)), ((EVEN, OVER), (ONCE, ONCE))
NAMES = {"go": ("hand",), "build": ("room", "door"), "lead": ("hand", "way"), "undo": ()}
LONE = ((None,), (SHORT,))


def state(office):
    """All that callers can read of an office."""
    return shape((office.first, office.house, office.standing, office.edits, office.version, office.inside(),
                  office.waits(), office.entered()))


class OfficeCase(Case):
    """Each edit is done in an office and in one told once more; and both have to be as each other then."""

    def both(self, house):
        office = Office(house)
        other = told.Office(house)
        self.assertEqual(state(other), state(office))
        return office, other

    def do(self, pair, word, *args):
        """Do it by place or by names; an error has to change nothing."""
        office, other = pair
        ahead, wanted = state(office), outcome(getattr(other, word), *args)
        if random.Random(repr(args)).random() < 0.5:
            found = outcome(getattr(office, word), *rebuilt(args))
        else:
            found = outcome(getattr(office, word), **dict(zip(NAMES[word], args)))
        self.assertEqual(wanted, found, (word, args))
        self.assertEqual(state(other), state(office), (word, args))
        if found[0] == "raises":
            self.assertEqual(ahead, state(office), (word, args))
        return found

    def refuses(self, error, pair, word, *args):
        found = self.do(pair, word, *args)
        self.assertEqual(("raises", type(error), shape(vars(error))), found, (word, args))

    def does(self, version, pair, word, *args):
        self.assertEqual(("tells", shape(version)), self.do(pair, word, *args), (word, args))

    def go_all(self, pair, run):
        for hand in run:
            self.does(pair[0].version + 1, pair, "go", hand)


class Making(Case):
    def test_ordinary(self):
        for house in (CROSSED, NESTED, known("meek", 5), LONE):
            for office in (Office(house), Office(house=rebuilt(house))):
                self.assertEqual(shape((house, house, start(house), (), 0, tuple(() for _ in house[0]), (), ())),
                                 state(office))

    def test_no_houses(self):
        for house in (CROSSED, NESTED):
            for path in parts(house):
                for value in variants(house, path):
                    error = retold.house_error(value)
                    wanted = ("raises", BadHouse, shape({"error": error}))
                    if error is not None:
                        self.assertEqual(wanted, outcome(Office, value))
                        self.assertEqual(wanted, outcome(Office, house=value))
        for value in STRANGE:
            self.assertEqual(("raises", BadHouse, shape({"error": retold.house_error(value)})), outcome(Office, value))

    def test_methods_stand_in_the_class(self):
        names = vars(offices.Office)
        for name in ("inside", "waits", "entered", "go", "build", "lead", "undo", "twin", "__eq__", "__ne__"):
            self.assertIn(name, names)
        for name, arguments in list(NAMES.items()) + [(name, ()) for name in ("inside", "waits", "entered", "twin")]:
            code = names[name].__code__
            self.assertEqual(("self",) + arguments, code.co_varnames[:code.co_argcount])


class Going(OfficeCase):
    def test_ordinary(self):
        pair = self.both(NESTED)
        self.go_all(pair, (0, 0, 0, 0, 1, 1, 1))
        self.assertEqual(((1, 0, 0),), pair[0].waits())
        self.assertEqual(((0,), ()), pair[0].inside())
        self.assertEqual(((0, 0),), pair[0].entered())
        self.refuses(Refused("barred"), pair, "go", 1)
        self.refuses(Refused("hand"), pair, "go", 2)
        self.go_all(pair, (0, 0, 0, 0, 1, 1, 1, 1, 1))
        self.assertEqual(((0, 0), (0, 1), (1, 0), (1, 1)), pair[0].entered())
        self.assertEqual((("go", 0),) * 4, pair[0].edits[:4])

    def test_hands(self):
        for house in (CROSSED, NESTED, LONE, known("level", 5)):
            pair = self.both(house)
            for value in STRANGE:
                found = self.do(pair, "go", value)
                if not (retold.integer(value) and 0 <= value < len(house[1])):
                    self.assertEqual(("raises", Refused, shape({"word": "hand"})), found)

    def test_barred(self):
        pair = self.both(CROSSED)
        self.go_all(pair, (0, 1, 0, 1))
        for hand in (0, 1):
            self.refuses(Refused("barred"), pair, "go", hand)
        for hand in (-1, 2, True, False, None):
            self.refuses(Refused("hand"), pair, "go", hand)
        self.assertEqual(((0, 1, 1), (1, 0, 0)), pair[0].waits())

    def test_sixty(self):
        pair = self.both(LONE)
        self.go_all(pair, (0,) * 60)
        rest = pair[0].standing
        for word, *args in (("go", 0), ("go", 5), ("go", None), ("build", 0, None), ("build", None, None),
                            ("lead", 0, SHORT), ("lead", 7, None), ("lead", [], {})):
            self.refuses(TooMany(60), pair, word, *args)
        self.assertEqual(rest, pair[0].standing)
        self.does(59, pair, "undo")
        self.does(60, pair, "go", 0)
        self.refuses(TooMany(60), pair, "go", 0)
        for version in range(59, -1, -1):
            self.does(version, pair, "undo")
        self.refuses(NothingToUndo(), pair, "undo")

    def test_sixty_builds_and_leads(self):
        pair = self.both(CROSSED)
        for k in range(30):
            self.does(2 * k + 1, pair, "build", k % 2, (EVEN, None, OVER)[k % 3])
            self.does(2 * k + 2, pair, "lead", k % 2, (BACK, ONCE)[k % 2])
        self.refuses(TooMany(60), pair, "build", 0, None)
        self.refuses(TooMany(60), pair, "lead", 0, ONCE)

    def test_sixty_while_barred_or_busy(self):
        pair = self.both(known("proud", 2))
        for _ in range(14):
            self.go_all(pair, (0, 0, 0, 0))
        self.go_all(pair, (0, 0, 1, 1))
        self.assertEqual((), movers(pair[0].house, pair[0].standing))
        for word, *args in (("go", 0), ("go", 2), ("build", 9, None), ("lead", 0, None)):
            self.refuses(TooMany(60), pair, word, *args)


class Building(OfficeCase):
    def test_ordinary(self):
        pair = self.both(NESTED)
        self.does(1, pair, "lead", 1, BACK)
        self.does(2, pair, "build", 0, None)
        self.does(3, pair, "build", 1, None)
        self.assertEqual((CROSSED, NESTED, start(CROSSED)), (pair[0].house, pair[0].first, pair[0].standing))
        self.assertEqual((("lead", 1, BACK), ("build", 0, None), ("build", 1, None)), pair[0].edits)
        self.does(4, pair, "build", 0, OVER)
        self.does(5, pair, "build", 0, OVER)
        self.does(6, pair, "lead", 0, SHORT * 12)

    def test_tokens_lie_as_at_the_beginning(self):
        pair = self.both(((EVEN, None), (SHORT, SHORT)))
        self.go_all(pair, (0,) * 5)
        self.assertEqual(((0, 0, 1, 1),), pair[0].standing[1])
        self.does(6, pair, "build", 1, EVEN)
        self.assertEqual(((0, 0, 1, 0), (1, 0, 1, 0)), pair[0].standing[1])
        self.assertEqual(((0, 0),), pair[0].entered())
        self.go_all(pair, (0,) * 5)
        self.does(12, pair, "lead", 1, ONCE)
        self.assertEqual(((0, 0, 1, 0), (1, 0, 1, 0)), pair[0].standing[1])
        self.assertEqual(((0, 0), (0, 0)), pair[0].entered())

    def test_refusals_in_order(self):
        pair = self.both(CROSSED)
        for room in (2, -1, True, False, None, "0", (), [0], 6, 10 ** 30):
            self.refuses(Refused("room"), pair, "build", room, "no door")
            self.refuses(Refused("hand"), pair, "lead", room, "no way")
        for door, error in ((EVEN[0], ("room", 0, ("row", 0))), (list(EVEN), ("room", 0, "form")),
                            ("plain", ("room", 0, "form")), (known("meek", 3)[0][0], ("room", 0, "rows")),
                            (False, ("room", 0, "form")), ((EVEN[0], ((1,), (1,))), ("room", 0, ("order", 1)))):
            self.refuses(BadHouse(error), pair, "build", 0, door)
        for way, error in ((ONCE[:2], "held"), (list(ONCE), "form"), (None, "form"),
                           ((("in", 2), ("out", 2)), ("step", 0)), ((("in", True), ("out", True)), ("step", 0)),
                           (SHORT * 13, "form"), (ONCE[1:], ("out", 2))):
            self.refuses(BadHouse(("way", 1, error)), pair, "lead", 1, way)
        self.go_all(pair, (0,))
        for word, *args in (("build", 0, None), ("build", 9, "x"), ("lead", 0, ONCE), ("lead", None, None),
                            ("build", 0, EVEN)):
            self.refuses(Refused("busy"), pair, word, *args)
        self.go_all(pair, (0, 0, 0))
        self.refuses(Refused("busy"), pair, "lead", 9, ONCE)
        self.go_all(pair, (0,))
        self.does(6, pair, "build", 0, EVEN)

    def test_any_values(self):
        for house in (CROSSED, NESTED, LONE):
            pair = self.both(house)
            for value in STRANGE:
                for word in ("build", "lead"):
                    self.do(pair, word, value, None)
                    self.do(pair, word, 0, value)
                    self.do(pair, word, value, value)
                while pair[0].version:
                    self.do(pair, "undo")
            for word, value in (("build", EVEN), ("lead", ONCE)):
                for path in parts(value):
                    for other in variants(value, path):
                        self.do(pair, word, 0, other)
                        if pair[0].version:
                            self.does(0, pair, "undo")

    def test_what_is_handed_in_is_kept_apart(self):
        rows = [["in", 0], ["out", 0]]
        pair = self.both(CROSSED)
        self.refuses(BadHouse(("way", 0, "form")), pair, "lead", 0, rows)
        way = tuple(tuple(row) for row in rows)
        self.does(1, pair, "lead", 0, way)
        rows[0][0] = "out"
        self.assertEqual((("lead", 0, SHORT),), pair[0].edits)


class Undoing(OfficeCase):
    def test_nothing(self):
        for house in (CROSSED, LONE):
            pair = self.both(house)
            self.refuses(NothingToUndo(), pair, "undo")
            self.refuses(Refused("hand"), pair, "go", 9)
            self.refuses(NothingToUndo(), pair, "undo")
            self.go_all(pair, (0,))
            self.does(0, pair, "undo")
            self.refuses(NothingToUndo(), pair, "undo")

    def test_across_builds_and_leads(self):
        pair = self.both(NESTED)
        seen = [state(pair[0])]
        for word, *args in ([("go", 0)] * 8 + [("build", 0, None), ("lead", 1, BACK), ("build", 1, None)]
                            + [("go", hand) for hand in (0, 1, 0, 1)]):
            self.do(pair, word, *args)
            seen.append(state(pair[0]))
        self.assertEqual(16, len({repr(one) for one in seen}))
        while seen:
            self.assertEqual(seen.pop(), state(pair[0]))
            if seen:
                self.does(len(seen) - 1, pair, "undo")


class Twins(OfficeCase):
    def twins(self, pair):
        return pair[0].twin(), pair[1].twin()

    def test_twins_led_on(self):
        pair = self.both(NESTED)
        self.go_all(pair, (0, 0, 0, 0, 1, 1, 1))
        ahead = state(pair[0])
        twin = self.twins(pair)
        self.assertIsNot(twin[0], pair[0])
        self.assertIs(Office, type(twin[0]))
        self.assertEqual(ahead, state(twin[0]))
        self.assertTrue(twin[0] == pair[0])
        self.does(8, twin, "go", 0)
        self.assertFalse(twin[0] == pair[0])
        self.assertEqual(ahead, state(pair[0]))
        self.does(7, twin, "undo")
        third = self.twins(twin)
        for version in range(6, -1, -1):
            self.does(version, third, "undo")
        self.refuses(NothingToUndo(), third, "undo")
        self.assertEqual(ahead, state(pair[0]))
        self.assertEqual(ahead, state(twin[0]))
        self.does(1, third, "build", 1, None)
        self.does(6, pair, "undo")
        self.assertEqual(ahead, state(twin[0]))

    def test_twins_of_twins_across_builds(self):
        draw = random.Random(291)
        for _ in range(6):
            pairs = [self.both(small_house(draw, draw.randint(1, 3)))]
            for _ in range(60):
                pair = draw.choice(pairs)
                if draw.random() < 0.1 and len(pairs) < 5:
                    pairs.append(self.twins(pair))
                else:
                    self.do(pair, *drawn_edit(draw, pair[0]))
                for one in pairs:
                    self.assertEqual(state(one[1]), state(one[0]))
                    for other in pairs:
                        self.assertEqual(told.same(one[1], other[1]), one[0] == other[0])
                        self.assertEqual(not told.same(one[1], other[1]), one[0] != other[0])


class Equal(Case):
    def check(self, wanted, one, other):
        for left, right in ((one, other), (other, one)):
            self.assertIs(wanted, left == right)
            self.assertIs(not wanted, left != right)

    def led(self, house, *edits):
        office = Office(house)
        for word, *args in edits:
            getattr(office, word)(*args)
        return office

    def test_how_it_came_there_plays_no_part(self):
        plain = Office(CROSSED)
        self.check(True, plain, plain)
        self.check(True, plain, Office(rebuilt(CROSSED)))
        self.check(True, plain, self.led(NESTED, ("build", 0, None), ("lead", 1, BACK), ("build", 1, None)))
        self.check(True, plain, self.led(CROSSED, ("go", 0), ("undo",)))
        self.check(True, self.led(CROSSED, ("go", 0), ("go", 1)), self.led(CROSSED, ("go", 1), ("go", 0)))
        self.check(True, plain, self.led(CROSSED, ("build", 0, None)))

    def test_house_standing_and_rooms_entered(self):
        plain = Office(CROSSED)
        self.check(False, plain, Office(((None, None), (ONCE, ONCE))))
        self.check(False, plain, Office(NESTED))
        self.check(False, plain, self.led(CROSSED, ("go", 0)))
        self.check(False, self.led(CROSSED, ("go", 0)), self.led(CROSSED, ("go", 1)))
        # All rest, in the same house, and just the rooms entered are others.
        home = self.led(CROSSED, *[("go", 0)] * 5)
        self.assertEqual((CROSSED, start(CROSSED)), (home.house, home.standing))
        self.check(False, plain, home)
        self.check(False, home, self.led(CROSSED, *[("go", 1)] * 5))
        both = [self.led(CROSSED, *[("go", hand)] * 5, *[("go", 1 - hand)] * 5) for hand in (0, 1)]
        self.assertEqual(sorted(both[0].entered()), sorted(both[1].entered()))
        self.check(False, both[0], both[1])
        even = ((EVEN,), (SHORT, SHORT))
        handed = self.led(even, *[("go", 0)] * 5)
        built = self.led(even, *[("go", 0)] * 5, ("build", 0, EVEN))
        self.assertEqual((handed.house, handed.entered()), (built.house, built.entered()))
        self.check(False, handed, built)

    def test_nothing_else(self):
        office = Office(CROSSED)
        for value in STRANGE + (CROSSED, start(CROSSED), (CROSSED, start(CROSSED), ()), told.Office(CROSSED), Office,
                                (office,), [office], {0: office}):
            self.check(False, office, value)
        self.assertIn(office, [office.twin()])
        self.assertNotIn(office, [None, CROSSED])


def drawn_edit(draw, office):
    """A drawn call of an office, mostly one that is done."""
    house, standing = office.house, office.standing
    hands, many = len(house[1]), len(house[0])
    chance = draw.random()
    if chance < 0.06:
        return ("undo",)
    if chance < 0.1:
        return draw.choice((("go", draw.choice((hands, -1, True, None))), ("build", many, None), ("lead", hands, SHORT),
                            ("build", 0, draw.choice((0, "door", ((), ())))),
                            ("lead", 0, draw.choice(((), SHORT[:1], None)))))
    resting = all(word == "rest" for _, word, _ in standing[0])
    if chance < 0.12 or resting and chance < 0.45:
        if draw.random() < 0.5:
            return ("build", draw.randrange(many), draw.choice((None, drawn_door(draw, hands))))
        return ("lead", draw.randrange(hands), drawn_way(draw, many, draw.choice((2, 4, 6))))
    going = [hand for hand in movers(house, standing) if standing[0][hand][1] != "rest"]
    if going and draw.random() < 0.75:
        return ("go", draw.choice(going))
    return ("go", draw.randrange(hands))


class Drawn(OfficeCase):
    def test_drawn_edits(self):
        draw = random.Random(292)
        done = {}
        for _ in range(22):
            house = draw.choice((small_house(draw, draw.randint(1, 3)), drawn_house(draw, draw.randint(1, 5), most=8)))
            pair = self.both(house)
            for _ in range(70):
                word, *args = drawn_edit(draw, pair[0])
                found = self.do(pair, word, *args)
                key = (word, found[0], found[1].__name__ + str(found[2]) if found[0] == "raises" else "")
                done[key] = done.get(key, 0) + 1
            self.check_whole(pair[0])
            while pair[0].version:
                self.do(pair, "undo")
            self.assertEqual(house, pair[0].house)
        for word in ("go", "build", "lead", "undo"):
            self.assertGreater(done.get((word, "tells", ""), 0), 40, done)

    def check_whole(self, office):
        """What L9 says of an office."""
        house, standing = office.house, office.standing
        at = max([k + 1 for k, edit in enumerate(office.edits) if edit[0] != "go"], default=0)
        run = tuple(edit[1] for edit in office.edits[at:])
        self.assertEqual(standing, behind(house, start(house), run))
        pairs = office.entered()
        self.assertEqual(pairs[len(pairs) - len(entered(house, start(house), run)):], entered(house, start(house), run))
        self.assertEqual(inside(house, standing), office.inside())
        self.assertEqual(barred(house, standing), office.waits())
        self.assertTrue(all(len(hands) < 2 for hands in office.inside()))
        waiting = [hand for hand, _, _ in office.waits()]
        self.assertEqual([hand for hand in range(len(house[1])) if hand not in waiting], list(movers(house, standing)))
        going = [hand for hand, (_, word, _) in enumerate(standing[0]) if word != "rest"]
        if is_never_stuck(house) and going:
            self.assertTrue([hand for hand in going if hand not in waiting])

    def test_rooms_entered_and_left(self):
        draw = random.Random(293)
        for _ in range(30):
            office = Office(small_house(draw, draw.randint(1, 3)))
            left = [0] * 5
            for _ in range(60):
                word, *args = drawn_edit(draw, office)
                if word == "undo":
                    continue
                leaves = word == "go" and args[0] in range(len(office.house[1])) and next_step(
                    office.house, office.standing, args[0]) == "leave"
                if outcome(getattr(office, word), *args)[0] == "tells" and leaves:
                    left[args[0]] += 1
                for hand in range(len(office.house[1])):
                    held = sum(hand in hands for hands in office.inside())
                    self.assertEqual(left[hand] + held, [one for one, _ in office.entered()].count(hand))

    def test_rooms_called_otherwise(self):
        draw = random.Random(294)
        for _ in range(20):
            house = small_house(draw, draw.randint(1, 3))
            names = drawn_names(draw, house)
            one, other = Office(house), Office(renamed(house, names))
            for _ in range(40):
                word, *args = drawn_edit(draw, one)
                if word in ("go", "undo"):
                    self.assertEqual(outcome(getattr(one, word), *args), outcome(getattr(other, word), *args))
            self.assertEqual(tuple((hand, names[room]) for hand, room in one.entered()), other.entered())
            self.assertEqual(one.standing[0], other.standing[0])

    def test_asking_changes_nothing(self):
        office = Office(NESTED)
        for hand in (0, 0, 0, 0, 1, 1, 1):
            office.go(hand)
        ahead = state(office)
        told_ones = [(office.inside(), office.waits(), office.entered(), office.twin() == office) for _ in range(3)]
        self.assertEqual(told_ones[:1] * 3, told_ones)
        self.assertEqual(ahead, state(office))

    def test_offices_stay_apart(self):
        one, other = Office(CROSSED), Office(CROSSED)
        one.go(0)
        self.assertEqual((0, start(CROSSED)), (other.version, other.standing))
        first = one.edits
        one.go(0)
        self.assertEqual((("go", 0),), first)

    def test_great_houses(self):
        draw = random.Random(295)
        began = time.time()
        for _ in range(10):
            house = drawn_house(draw, hands=5, many=6)
            office = Office(house)
            for _ in range(200):
                word, *args = drawn_edit(draw, office)
                outcome(getattr(office, word), *args)
            office.twin().waits()
        deep = ((None,) * 2, (ONCE,) * 5)
        office = Office(deep)
        for hand in meeting(deep, (2, None, None, 0, None)):
            office.go(hand)
        self.assertEqual(((0,), (0,)), office.inside())
        self.assertLess(time.time() - began, 20)
