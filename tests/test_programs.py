"""Programs and their ways: I1 and I2, and what I6 says of ways."""

import random
import time

from roomways.errors import TooMany
from roomways.programs import program_error, ways_of
from roomways.ways import way_error
from tests import retold_programs as told
from tests.support import STRANGE, Case, parts, variants

CHOOSING = (("in", 0, (("either", ((("in", 1, ()),), ())), ("in", 2, ()))),)
GOING_ON = (("again", (("in", 1, (("in", 0, ()),)),)),)


def lone(room):
    """A program that enters this room alone."""
    return (("in", room, ()),)


def agains(many, inner):
    """A program within so many agains."""
    for _ in range(many):
        inner = (("again", inner),)
    return inner


def nested(rooms):
    """A program that enters these rooms, each within the one ahead."""
    program = ()
    for room in reversed(rooms):
        program = (("in", room, program),)
    return program


def either(*programs):
    return (("either", programs),)


class ProgramErrors(Case):
    def check(self, wanted, many, value):
        self.tells(wanted, program_error, many, value)
        self.assertEqual(wanted, told.program_error(many, value))

    def test_right(self):
        for value in (CHOOSING, GOING_ON, lone(0), lone(2), lone(0) + lone(0), nested((0, 1, 2)), either(lone(0), ()),
                      either((), lone(1)), agains(5, lone(1)), either(lone(0), lone(1), lone(2), lone(0))):
            self.check(None, 3, value)

    def test_form(self):
        for value in (None, [], list(CHOOSING), "in 0", {0: 1}, 5):
            self.check("form", 3, value)
        self.check("idle", 3, ())

    def test_parts(self):
        for part in (None, "in", (), ("in",), ("in", 0), ("in", 0, (), ()), ("in", 3, ()), ("in", -1, ()),
                     ("in", True, ()), ("in", False, ()), ("in", "0", ()), ("in", 0, []), ("in", 0, None),
                     ["in", 0, ()], ("out", 0, ()), ("IN", 0, ()), ("either", ()), ("either", ((),)),
                     ("either", (lone(0),)), ("either", (lone(0),) * 5), ("either", [lone(0), ()]),
                     ("either", (lone(0), [])), ("either", (lone(0), None)), ("either", lone(0), ()), ("again", ()),
                     ("again", []), ("again", None), ("again", lone(0), ()), ("again",), (None, lone(0)),
                     (("again",), lone(0))):
            self.check(("part", (0,)), 3, (part,))
            self.check(("part", (1,)), 3, lone(0) + (part,))
            self.check(("part", (0, 0)), 3, (("in", 1, (part,)),))
            self.check(("part", (0, 1, 0)), 3, either((), (part,)))
            self.check(("part", (0, 0)), 3, (("again", (part,)),))
        for many in (1, 2, 3, 4, 5, 6):
            self.check(None, many, lone(many - 1))
            self.check(("part", (0,)), many, lone(many))

    def test_rooms(self):
        self.check(("room", (0, 0)), 3, nested((0, 0)))
        self.check(("room", (0, 0, 0)), 3, nested((0, 1, 0)))
        self.check(("room", (0, 0, 1, 0)), 3, (("in", 0, either((), lone(0))),))
        self.check(("room", (0, 0, 0)), 3, (("in", 0, (("again", lone(0)),)),))
        self.check(None, 3, (("in", 0, lone(1) + lone(1)),) + lone(0))

    def test_deep(self):
        self.check(None, 1, agains(5, lone(0)))
        self.check(("deep", (0,) * 7), 1, agains(6, lone(0)))
        self.check(("deep", (0,) * 7), 1, agains(7, lone(0)))
        self.check(None, 6, nested((0, 1, 2, 3, 4, 5)))
        self.check(("deep", (0,) * 7), 6, nested((0, 1, 2, 3, 4, 5))[:0] + agains(1, nested((0, 1, 2, 3, 4, 5))))
        self.check(("deep", (0, 0, 0, 0, 0, 0, 0, 0)), 1, either(agains(5, lone(0)), ()))
        self.check(None, 1, either(agains(4, lone(0)), ()))

    def test_first_of_several(self):
        # Ahead of what is within a part comes the part itself; otherwise the lesser spot is first.
        self.check(("part", (0,)), 3, (("in", 3, (None,)), None))
        self.check(("part", (0, 0)), 3, (("in", 0, (None,)), None))
        self.check(("part", (1,)), 3, lone(0) + (None,) + nested((0, 0)))
        self.check(("room", (0, 0)), 3, nested((0, 0)) + (None,))
        self.check(("part", (0, 0)), 3, (("in", 0, (("in", 0, []),)),))
        self.check(("room", (0, 0)), 3, (("in", 0, (("in", 0, (None,)),)),))
        self.check(("part", (0, 0, 1)), 3, either(lone(0) + (None,), (None,)))
        self.check(("part", (0,) * 7), 1, agains(6, (None,)))
        self.check(("deep", (0,) * 7), 1, agains(6, agains(1, (None,))))
        self.check(("room", (0,) * 7), 6, agains(1, nested((0, 1, 2, 3, 4, 0))))
        self.check(("deep", (0,) * 7), 1, agains(6, lone(0)) + (None,))
        self.check(("part", (12,)), 3, lone(0) * 12 + (None,))

    def test_many(self):
        self.check(None, 3, lone(0) * 12)
        self.check("many", 3, lone(0) * 13)
        self.check(None, 3, (("in", 0, lone(1) * 11),))
        self.check("many", 3, (("in", 0, lone(1) * 12),))
        self.check(None, 3, either(lone(0) * 5, lone(1) * 6))
        self.check("many", 3, either(lone(0) * 6, lone(1) * 6))
        self.check("many", 3, either((), ()) * 13)
        self.check("idle", 3, either((), ()) * 12)
        self.check("many", 1, lone(0) * 2000)

    def test_idle(self):
        for value in ((), either((), ()), either((), either((), ())), (("again", either((), (), ())),)):
            self.check("idle", 3, value)

    def test_strange_values(self):
        for many in (1, 3, 6):
            for value in STRANGE:
                self.agrees(told.program_error, program_error, many, value)
                self.agrees(told.program_error, program_error, many, (value,))

    def test_parts_changed(self):
        for program in (CHOOSING, GOING_ON):
            for path in parts(program):
                for value in variants(program, path):
                    self.agrees(told.program_error, program_error, 3, value)

    def test_drawn_programs(self):
        draw = random.Random(211)
        for _ in range(150):
            program = told.drawn_program(draw, draw.randint(1, 6))
            for many in range(1, 7):
                self.agrees(told.program_error, program_error, many, program)
            path = draw.choice(parts(program))
            for value in draw.sample(variants(program, path), 12):
                self.agrees(told.program_error, program_error, 6, value)


class Ways(Case):
    def test_ordinary(self):
        long = (("in", 0), ("in", 1), ("out", 1), ("in", 2), ("out", 2), ("out", 0))
        self.tells((long, long[:1] + long[3:]), ways_of, CHOOSING, 24)
        self.tells((long[:1] + long[3:],), ways_of, CHOOSING, 4)
        self.tells((long[:1] + long[3:],), ways_of, CHOOSING, 5)
        self.tells((), ways_of, CHOOSING, 3)
        once = (("in", 1), ("in", 0), ("out", 0), ("out", 1))
        for most in range(2, 25):
            self.tells(tuple(once * k for k in range(1, most // 4 + 1)), ways_of, GOING_ON, most)

    def test_one_way(self):
        draw = random.Random(212)
        for _ in range(60):
            program = told.drawn_program(draw, 6)
            if not any(part[0] != "in" for _, part in told.walk(program)):
                (way,) = ways_of(program, 24)
                self.tells((way,), ways_of, program, len(way))
                self.tells((), ways_of, program, len(way) - 1)

    def test_just_as_many_and_one_more(self):
        # As many ways as sums of twos in which the choices differ: 2 + 4 + .. of two programs.
        two = (("again", either(lone(0), lone(1))),)
        self.assertEqual(254, len(self.answer(ways_of, two, 14)))
        self.raises(TooMany(400), ways_of, two, 16)
        for many, text, most in (
                (400, "in 5 (again (in 3 (again (either (in 1; in 2) or (in 0) or (in 4) or (in 1)))); in 4)", 14),
                (399, "either (in 4; again (in 4 (either (again (in 2; in 5)) or () or (in 3 (in 5; in 5))))) or ()",
                 24),
                (401, "in 0 (in 4 (again (in 3 (again (in 5); either () or (in 2) or () or (in 2; in 1); in 5))))", 24),
                (402, "again (in 5); again (again (either () or () or "
                      "(either () or (again (in 4; in 5; in 5); in 0))))", 24)):
            program = told.read_program(text)
            self.assertEqual(many, len({told.plain(row) for row in told.rows_by(program, most) if row}))
            self.agrees(told.ways_of, ways_of, program, most)
            if many > 400:
                self.raises(TooMany(400), ways_of, program, most)
            else:
                self.assertEqual(many, len(self.answer(ways_of, program, most)))

    def test_the_same_row_in_several_manners(self):
        twice = (("again", (("again", lone(0)), ("again", lone(0)))), ("again", lone(0)))
        for most in range(2, 25):
            self.tells(tuple((("in", 0), ("out", 0)) * k for k in range(1, most // 2 + 1)), ways_of, twice, most)
        either_one = either(lone(0), lone(0), (), agains(4, either((), ())))
        self.tells(((("in", 0), ("out", 0)),), ways_of, either_one, 24)

    def test_drawn_programs(self):
        draw = random.Random(214)
        many = 0
        for _ in range(600):
            program = told.drawn_program(draw, draw.randint(1, 6), draw.randint(1, 8))
            for most in (2, 3, 6, 8):
                self.agrees(told.ways_of, ways_of, program, most)
            for way in ways_of(program, 8):
                self.assertIsNone(way_error(6, way))
                many += 1
        self.assertGreater(many, 1000)

    def test_great_programs(self):
        draw = random.Random(215)
        began = time.time()
        programs = [told.drawn_program(draw, 6) for _ in range(60)]
        deep = (("again", agains(4, lone(0)) + lone(1)),) + agains(3, lone(2)) + lone(3)
        wide = (("again", either(*[lone(k) for k in range(4)])),) * 2
        for program in programs + [deep, wide, agains(5, lone(0)), (("again", agains(4, lone(0))),) + lone(0) * 6]:
            for most in (24, 23, 12, 2):
                try:
                    ways = self.answer(ways_of, program, most) if most == 24 else ways_of(program, most)
                except (TooMany, AssertionError):
                    self.raises(TooMany(400), ways_of, program, most)
                    continue
                self.assertLessEqual(len(ways), 400)
                self.assertEqual(sorted(set(ways)), list(ways))
        self.assertLess(time.time() - began, 20)
