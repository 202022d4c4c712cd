"""The texts of programs: I3, and what I6 says of them."""

import random
import time

from roomways.errors import BadText
from roomways.programtexts import program_text, read_program
from tests import retold_programs as told
from tests.support import STRANGE, Case

CHOOSING = (("in", 0, (("either", ((("in", 1, ()),), ())), ("in", 2, ()))),)
GOING_ON = (("again", (("in", 1, (("in", 0, ()),)),)),)
SIGNS = "01256() ;orinegathx~\nI"


class ProgramTexts(Case):
    def both(self, text, program):
        self.tells(text, program_text, program)
        self.tells(program, read_program, text)

    def test_ordinary(self):
        self.both("in 0 (either (in 1) or (); in 2)", CHOOSING)
        self.both("again (in 1 (in 0))", GOING_ON)
        for room in range(6):
            self.both(f"in {room}", (("in", room, ()),))
        self.both("in 0; in 0; in 5", (("in", 0, ()), ("in", 0, ()), ("in", 5, ())))
        self.both("either (in 0) or () or (in 1; in 2) or (again (in 3))", (("either", (
            (("in", 0, ()),), (), (("in", 1, ()), ("in", 2, ())), (("again", (("in", 3, ()),)),))),))
        self.both("either () or (); in 0", (("either", ((), ())), ("in", 0, ())))
        self.both("either (either () or ()) or (in 4)",
                  (("either", ((("either", ((), ())),), (("in", 4, ()),))),))
        self.both("in 0 (in 1 (in 2 (in 3 (in 4 (in 5)))))",
                  (("in", 0, (("in", 1, (("in", 2, (("in", 3, (("in", 4, (("in", 5, ()),)),)),)),)),)),))
        self.both("; ".join(["in 3"] * 12), (("in", 3, ()),) * 12)

    def test_no_programs(self):
        for text in ("", "()", "in", "in ", "in 6", "in 9", "in 10", "in 00", "in 01", "in -1", "in x", "in 0 ",
                     " in 0", "in  0", "in 0 ()", "in 0()", "in 0(in 1)", "in 0 (in 0)", "in 0 (in 1", "in 0 in 1)",
                     "in 0 in 1", "in 0 ((in 1))", "in 0 (in 1))", "In 0", "in 0;in 1", "in 0 ; in 1", "in 0; ",
                     "; in 0", "in 0;", "in 0; ; in 1", "in 0\n", "in 0\nin 1", "again", "again ", "again ()",
                     "again in 0", "again (in 0", "again(in 0)", "again  (in 0)", "again (in 0) ", "again (in 0; )",
                     "either", "either (in 0)", "either () or ()", "either (in 0) or", "either (in 0) or ",
                     "either (in 0) or in 1", "either (in 0)  or ()", "either (in 0) or () or () or () or ()",
                     "either (in 0)or ()", "either (in 0) or (); ", "either in 0 or ()", "either (in 0) and ()",
                     "or (in 0)", "(in 0)", "; ".join(["in 3"] * 13),
                     "again (again (again (again (again (again (in 0))))))", "in 0 (either (in 1) or (in 0))",
                     "in 0 (again (in 1; in 0))", "in 0 (in 1) (in 2)", "out 0"):
            self.raises(BadText(0), read_program, text)

    def test_strange_values(self):
        for value in STRANGE + (CHOOSING, GOING_ON, ["in 0"], ("in 0",), {"in 0": 1}):
            self.raises(BadText(0), read_program, value)

    def test_drawn_programs(self):
        draw = random.Random(221)
        texts = {}
        for _ in range(400):
            program = told.drawn_program(draw, draw.randint(1, 6))
            text = told.program_text(program)
            self.both(text, program)
            self.assertEqual(program, texts.setdefault(text, program))

    def test_one_sign_changed(self):
        draw = random.Random(222)
        right = 0
        for _ in range(60):
            text = program_text(told.drawn_program(draw, 6, 8))
            at = draw.randrange(len(text))
            rows = [text[:k] + text[k + 1:] for k in range(len(text))]
            rows += [text[:k] + text[k] + text[k:] for k in range(len(text))]
            rows += [text[:k] + text[k + 1:k + 2] + text[k:k + 1] + text[k + 2:] for k in range(len(text))]
            rows += [text[:at] + sign + text[at:] for sign in SIGNS]
            rows += [text[:at] + sign + text[at + 1:] for sign in SIGNS]
            rows += [text[:at] + " " + text[at:], text + ")", "(" + text + ")", text[:at], text[at:],
                     text + "; " + text]
            for row in rows:
                self.agrees(told.read_program, read_program, row)
                right += self.ask(read_program, row)[0] == "tells"
        self.assertGreater(right, 200)

    def test_deep_and_long(self):
        began = time.time()
        for many in (6, 7, 50, 300, 2800):
            for begin, end in (("again (", ")"), ("either (", ")"), ("either () or (", ")"), ("in 0 (", ")")):
                self.raises(BadText(0), read_program, begin * many + "in 1" + end * many)
                self.raises(BadText(0), read_program, begin * many)
        for text in ("(" * 20000, ")" * 20000, "in 0; " * 3333, "in 0; " * 3333 + "in",
                     "either " + "() or " * 3000 + "()", "in " + "0" * 19000, "in " + "9" * 19000, " " * 20000,
                     "either (" + "in 1; " * 3000 + "in 1) or ()"):
            self.raises(BadText(0), read_program, text)
        self.assertLess(time.time() - began, 10)

    def test_spaced_brackets(self):
        for text in ("in 0 ( in 1)", "in 0 (in 1 )", "again ( in 0)", "either (in 0 ) or ()"):
            self.raises(BadText(0), read_program, text)
