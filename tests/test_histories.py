"""Histories, and hands that go by programs: I4 and I5, and what I6 says of them."""

import itertools
import random
import time

from roomways.errors import Unfit
from roomways.histories import apart_by, held_at, histories, spots, stuck_ways, way_by
from roomways.houses import house_error
from roomways.stuckness import is_never_stuck, stuck_ring
from roomways.together import comes_together
from roomways.ways import way_error
from tests import retold
from tests import retold_programs as told
from tests import retold_rings as rings
from tests.support import STRANGE, Case, parts, variants

CHOOSING = (("in", 0, (("either", ((("in", 1, ()),), ())), ("in", 2, ()))),)
GOING_ON = (("again", (("in", 1, (("in", 0, ()),)),)),)
LONG = told.read_program("in 0 (again (in 1); either (in 2) or (in 3); in 4 (in 1))")
LEFT, RIGHT = told.read_program("in 0 (in 1; in 2)"), told.read_program("in 1 (in 0; in 2)")


def entries_at(row, spot):
    """The places of a row with spots at which the in of this spot begins."""
    return [k for k, step in enumerate(row) if step[0] == "in" and step[2] == spot]


def few_ins(draw, rooms, ins, most):
    """A drawn program with so many ins at most."""
    while True:
        program = told.drawn_program(draw, rooms, most)
        if len(told.spots(program)) <= ins:
            return program


def drawn_choice(draw, programs, none=0.1):
    return tuple(None if draw.random() < none else draw.choice(told.spots(program)) for program in programs)


class Spots(Case):
    def test_ordinary(self):
        self.tells(((0,), (0, 0, 0, 0), (0, 1)), spots, CHOOSING)
        self.tells(((0, 0), (0, 0, 0)), spots, GOING_ON)
        for spot, wanted in (((0,), ()), ((0, 0, 0, 0), (0,)), ((0, 1), (0,))):
            self.tells(wanted, held_at, CHOOSING, spot)
        self.tells((), held_at, GOING_ON, (0, 0))
        self.tells((1,), held_at, GOING_ON, (0, 0, 0))
        self.tells((0, 4), held_at, LONG, (0, 2, 0))
        deep = told.read_program("in 5 (in 3 (in 4 (in 0 (in 2 (in 1)))))")
        self.tells((5, 3, 4, 0, 2), held_at, deep, (0,) * 6)

    def test_drawn_programs(self):
        draw = random.Random(231)
        for _ in range(150):
            program = told.drawn_program(draw, draw.randint(1, 6))
            self.agrees(told.spots, spots, program)
            for spot in told.spots(program):
                self.agrees(told.held_at, held_at, program, spot)

    def test_no_spots(self):
        values = list(STRANGE) + [(0, 0), (0, 0, 0), (0, 0, 1), (0, 0, 1, 0), (0, 2), (1,), [0, 1], (0, True),
                                  (False, 1), (0, 1, 0), (-1,), (0, -1), "0", (0, 0, 0, 0, 0), (0, "1"), ((0,),), ()]
        for value in values:
            if not (type(value) is tuple and retold.among(value, told.spots(CHOOSING))):
                self.raises(Unfit(), held_at, CHOOSING, value)
                self.raises(Unfit(), histories, CHOOSING, value)
                self.raises(Unfit(), way_by, CHOOSING, value, ())
                self.raises(Unfit(), way_by, CHOOSING, value, ((),))
        for path in parts((0, 0, 0, 0)):
            for value in variants((0, 0, 0, 0), path):
                if not retold.among(value, told.spots(CHOOSING)):
                    self.raises(Unfit(), held_at, CHOOSING, value)


class Histories(Case):
    def check_ways(self, program, spot):
        """For each least history there has to be a way in which it comes at an entry of this spot."""
        for history in histories(program, spot):
            way, place = self.answer(way_by, program, spot, history)
            self.assertIsNone(way_error(6, way))
            rows = [row for row in told.rows_by(program, len(way)) if told.plain(row) == way]
            self.assertTrue(any(place in entries_at(row, spot) for row in rows), (program, spot, way, place))
            self.assertEqual(history, told.history_at(way, place))

    def test_ordinary(self):
        for spot, wanted in (((0,), ((),)), ((0, 0, 0, 0), (((),),)), ((0, 1), (((),),))):
            self.tells(wanted, histories, CHOOSING, spot)
            self.check_ways(CHOOSING, spot)
        self.tells((((2,),), ((3,),)), histories, LONG, (0, 2))
        self.tells((((2, 4), ()), ((3, 4), ())), histories, LONG, (0, 2, 0))
        for program in (LONG, GOING_ON, LEFT, RIGHT):
            for spot in told.spots(program):
                self.check_ways(program, spot)

    def test_less_ones_push_out_greater_ones(self):
        program = told.read_program(
            "in 0 (either (in 1; in 2) or (in 1) or (in 3; in 1); either (in 4) or (in 1); in 5)")
        self.tells((((1,),),), histories, program, (0, 2))
        program = told.read_program("in 0 (either (in 1) or (in 2); either (in 1) or (in 2); in 3 (in 4))")
        self.tells((((1,),), ((2,),)), histories, program, (0, 2))
        self.tells((((1, 3), ()), ((2, 3), ())), histories, program, (0, 2, 0))
        program = told.read_program("in 0 (again (either (in 1) or (in 2; in 3)); in 4 (in 2; again (in 1); in 5))")
        self.tells((((2, 4), (2,)),), histories, program, (0, 1, 2))

    def test_least_in_several_items(self):
        program = told.read_program("in 0 (either (in 1) or (in 2); in 3 (either (in 1) or (in 2); in 4))")
        self.tells((((1, 3), (1,)), ((2, 3), (2,))), histories, program, (0, 1, 1))
        program = told.read_program("in 0 (either (in 1) or (in 2); in 3 (either (in 1; in 4) or (in 2); in 5))")
        self.tells((((1, 3, 4), (1, 4)), ((2, 3), (2,))), histories, program, (0, 1, 1))

    def test_by_all_rows(self):
        draw = random.Random(232)
        several = 0
        for k in range(400):
            program = few_ins(draw, draw.randint(2, 6), 5, draw.randint(3, 9))
            if k % 2:
                program = told.choosing_program(draw, draw.randint(4, 6), 9)
            most = 2 * len(told.spots(program)) + 2
            for spot in told.spots(program):
                found = told.all_histories(program, spot, most)
                self.tells(told.least_ones(found), histories, program, spot)
                several += len(histories(program, spot)) > 1
                for history in found:
                    self.assertTrue(any(known == history or told.is_less(known, history)
                                        for known in histories(program, spot)))
                self.check_ways(program, spot)
        self.assertGreater(several, 10)

    def test_great_programs(self):
        draw = random.Random(233)
        several = 0
        for _ in range(60):
            program = told.drawn_program(draw, 6)
            without = told.without_more(program)
            for spot in told.spots(program):
                other = told.here_within(program, spot)
                self.tells(told.histories(without, other), histories, program, spot)
                for history in histories(program, spot):
                    way, place = way_by(program, spot, history)
                    self.assertIsNone(way_error(6, way))
                    self.assertEqual(history, told.history_at(way, place))
                    several += 1
        self.assertGreater(several, 200)

    def test_choosing_in_one_row(self):
        texts = ("in 0 (either (in 1) or (in 2); either (in 3) or (in 4); either (in 5) or (in 1); in 2)",
                 "in 0 (either (in 1) or (in 2) or (in 3) or (in 4); either (in 2) or (in 3) or (in 4) or (in 5))",
                 "in 0 (either (in 1; in 2) or (in 3; in 4) or (in 5); either (in 1; in 3) or (in 2; in 4))")
        for text in texts:
            program = told.read_program(text)
            for spot in told.spots(program):
                self.agrees(told.histories, histories, program, spot)
                self.check_ways(program, spot)

    def test_no_histories(self):
        for value in STRANGE + (((1,),), ((), ()), [()], ([],), ((0,),), ((2,),), "()", ((),)):
            for spot, wanted in (((0,), ()), ((0, 1), ((),))):
                if type(value) is tuple and value == wanted:
                    self.answer(way_by, CHOOSING, spot, value)
                else:
                    self.raises(Unfit(), way_by, CHOOSING, spot, value)
        history = ((2, 4), ())
        for path in parts(history):
            for value in variants(history, path):
                if not retold.among(value, told.histories(LONG, (0, 2, 0))):
                    self.raises(Unfit(), way_by, LONG, (0, 2, 0), value)
        # What is a history, but not a least one, is none of them.
        self.raises(Unfit(), way_by, LONG, (0, 2), ((1, 2),))
        self.raises(Unfit(), way_by, LONG, (0, 2), ((True,),))

    def test_rooms_called_otherwise(self):
        draw = random.Random(234)
        for _ in range(60):
            program = told.drawn_program(draw, 6)
            names = list(range(6))
            draw.shuffle(names)
            other = told.renamed_program(program, names)
            for spot in told.spots(program):
                wanted = [tuple(tuple(sorted(names[room] for room in since)) for since in history)
                          for history in histories(program, spot)]
                self.tells(tuple(sorted(wanted)), histories, other, spot)


class Apart(Case):
    def check(self, programs, choice):
        known = [None if spot is None else told.histories(told.without_more(program), told.here_within(program, spot))
                 for program, spot in zip(programs, choice)]
        self.answer(apart_by, programs, choice)
        given = apart_by(programs, choice)
        self.assertEqual(told.has_apart(programs, choice, known), given is not None, (programs, choice))
        if given is not None:
            self.assertTrue(told.apart_by_fits(programs, choice, given, known), (programs, choice, given))
        return given

    def test_ordinary(self):
        self.tells((((),), ((),)), apart_by, (CHOOSING, GOING_ON), ((0, 0, 0, 0), (0, 0, 0)))
        self.tells(None, apart_by, (LEFT, RIGHT), ((0, 1), (0, 1)))
        self.tells((((),), ((0,),)), apart_by, (CHOOSING, RIGHT), ((0, 1), (0, 1)))
        self.tells(None, apart_by, (LEFT, LEFT), ((0, 1), (0, 0)))
        self.tells((((1,),), None), apart_by, (LEFT, RIGHT), ((0, 1), None))
        self.tells((None, None), apart_by, (LEFT, RIGHT), (None, None))
        self.tells((None,), apart_by, (LEFT,), (None,))
        self.tells(((),), apart_by, (LEFT,), ((0,),))
        self.tells(((),) * 5, apart_by, (LEFT,) * 5, ((0,),) * 5)

    def test_one_of_several_histories(self):
        one = told.read_program("in 0 (either (in 1) or (in 2); in 3)")
        for room, wanted in ((1, ((2,),)), (2, ((1,),))):
            other = told.read_program(f"in {room} (in 0; in 4)")
            self.tells((wanted, ((0,),)), apart_by, (one, other), ((0, 1), (0, 1)))
        # Beside one that holds 1 and one that holds 2, both behind 0, neither of both histories will do.
        third = told.read_program("in 1 (in 0; in 5)")
        self.tells(None, apart_by, (one, other, third), ((0, 1), (0, 1), (0, 1)))

    def test_drawn_programs(self):
        draw = random.Random(235)
        told_of = []
        for _ in range(500):
            hands = draw.choice((1, 2, 2, 2, 3, 3, 4, 5))
            rooms = draw.randint(2, 6)
            programs = tuple(told.drawn_program(draw, rooms, draw.randint(3, 10)) for _ in range(hands))
            if rooms > 3 and draw.random() < 0.5:
                programs = tuple(told.choosing_program(draw, rooms) for _ in programs)
            told_of.append(self.check(programs, drawn_choice(draw, programs)))
        self.assertGreater(told_of.count(None), 80)

    def test_arcs_that_matter(self):
        draw = random.Random(236)
        nones = rings_seen = 0
        for _ in range(900):
            hands = draw.choice((2, 2, 3))
            names = [draw.sample(range(6), 6) for _ in range(hands)]
            texts = ("in 0 (either (in 1) or (in 2); in 3 (either (in 4) or (in 1); in 5))", "in 0 (in 1; in 2)",
                     "in 0 (either (in 1) or (in 2); either (in 3) or (in 1); in 5)", "in 0 (in 1; again (in 2); in 3)")
            programs = tuple(told.renamed_program(told.read_program(draw.choice(texts)), row) for row in names)
            choice = tuple(told.spots(program)[-1] for program in programs)
            given = self.check(programs, choice)
            nones += given is None
            rings_seen += given is None and not told.shared(programs, choice)
        self.assertGreater(nones, 60)
        self.assertGreater(rings_seen, 10)

    def test_by_rows(self):
        draw = random.Random(237)
        several = []
        for k in range(300):
            rooms = draw.randint(2, 5)
            programs = tuple(few_ins(draw, rooms, 4, 7) for _ in range(draw.choice((2, 2, 3))))
            if k % 2:
                programs = tuple(told.choosing_program(draw, 5, 8) for _ in programs)
            choice = drawn_choice(draw, programs)
            stands = [self.stands(program, spot) for program, spot in zip(programs, choice)]
            found = any(self.come_together(row) for row in itertools.product(*stands))
            self.assertEqual(found, apart_by(programs, choice) is not None, (programs, choice))
            several.append(found)
        self.assertGreater(several.count(True), 40)
        self.assertGreater(several.count(False), 15)

    def stands(self, program, spot):
        """One way and place for each history of the spot in a row of some steps, or one way and no place."""
        most = 2 * len(told.spots(program)) + 2
        rows = sorted(told.rows_by(program, most))
        if spot is None:
            return [(next(told.plain(row) for row in rows if row), None)]
        found = {}
        for row in rows:
            for place in entries_at(row, spot):
                found.setdefault(told.history_at(told.plain(row), place), (told.plain(row), place))
        return list(found.values())

    def come_together(self, stands):
        house = ((None,) * 6, tuple(way for way, _ in stands))
        return rings.comes_together(house, tuple(place for _, place in stands))

    def test_more_choices_never_harm(self):
        draw = random.Random(238)
        for _ in range(120):
            programs = tuple(told.drawn_program(draw, 4, 7) for _ in range(2))
            choice = drawn_choice(draw, programs, 0)
            if apart_by(programs, choice) is not None:
                wide = (("either", (programs[0], ())),)
                if told.program_error(6, wide) is None:
                    self.assertIsNotNone(apart_by((wide, programs[1]), ((0, 0) + choice[0], choice[1])))


class StuckWays(Case):
    def check(self, many, programs):
        self.answer(stuck_ways, many, programs)
        ways = stuck_ways(many, programs)
        self.assertEqual(told.spot_rings(programs), ways is not None, programs)
        if ways is None:
            return False
        house = ((None,) * many, ways)
        self.assertIsNone(house_error(house))
        self.assertIsNotNone(stuck_ring(house), (programs, ways))
        for program, way in zip(programs, ways):
            self.assertIn(way, [told.plain(row) for row in told.rows_by(program, len(way))])
        return True

    def test_ordinary(self):
        self.assertTrue(self.check(3, (CHOOSING, GOING_ON)))
        self.assertFalse(self.check(3, (CHOOSING, CHOOSING)))
        lone = told.read_program("either (in 0) or (in 1)")
        self.assertFalse(self.check(2, (GOING_ON, lone)))
        self.assertTrue(self.check(3, (LEFT, RIGHT)))
        self.assertFalse(self.check(3, (LEFT,)))
        self.assertFalse(self.check(1, (told.read_program("in 0"),) * 5))
        self.assertTrue(self.check(3, (lone, CHOOSING, lone, GOING_ON, lone)))

    def test_rings_of_many(self):
        for many in (3, 4, 5):
            texts = [f"again (in {k} (either (in {(k + 1) % many}) or ()))" for k in range(many)]
            programs = tuple(map(told.read_program, texts))
            self.assertTrue(self.check(many, programs))
            for k in range(many):
                self.assertFalse(self.check(many, programs[:k] + programs[k + 1:]))

    def test_a_gate(self):
        led = [told.read_program(text) for text in ("in 2 (in 0 (in 1))", "in 2 (in 1 (in 0))", "in 1 (in 0)",
                                                   "either (in 2 (in 1 (in 0))) or (in 1 (in 0))")]
        self.assertFalse(self.check(3, (led[0], led[1])))
        self.assertTrue(self.check(3, (led[0], led[2])))
        self.assertTrue(self.check(3, (led[0], led[3])))

    def test_later_rings_that_do_not_come_together(self):
        one, other = told.read_program("in 0 (in 1; in 2; in 3)"), told.read_program("in 2 (in 0; in 4)")
        self.check(5, (one, other))
        one = told.read_program("in 0 (in 1 (in 5); in 3)")
        other = told.read_program("in 3 (again (in 1); either (in 1) or (in 1; in 1); in 0)")
        self.assertTrue(self.check(6, (one, other)))

    def test_drawn_programs(self):
        draw = random.Random(239)
        several = []
        for _ in range(300):
            many = draw.randint(2, 6)
            programs = tuple(told.drawn_program(draw, many, draw.randint(2,
                                                                         7)) for _ in range(draw.choice((2, 2, 3, 3,
                                                                                                         4))))
            several.append(self.check(many, programs))
        self.assertGreater(several.count(True), 60)
        self.assertGreater(several.count(False), 60)

    def test_by_all_ways(self):
        draw = random.Random(240)
        several = []
        for _ in range(60):
            many = draw.randint(2, 3)
            programs = tuple(few_ins(draw, many, 4, 6) for _ in range(draw.choice((2, 2, 3))))
            ways = [sorted({told.plain(row) for row in told.rows_by(program, 2 * len(told.spots(program)) + 2) if row})
                    for program in programs]
            stuck = any(rings.stuck_ring(((None,) * many, row)) for row in itertools.islice(itertools.product(*ways),
                                                                                            1500))
            if not stuck and len(list(itertools.islice(itertools.product(*ways), 1501))) > 1500:
                continue
            self.assertEqual(stuck, self.check(many, programs), programs)
            several.append(stuck)
        self.assertGreater(several.count(True), 8)
        self.assertGreater(several.count(False), 8)

    def test_more_never_mends(self):
        draw = random.Random(241)
        for _ in range(80):
            programs = tuple(told.drawn_program(draw, 4, 6) for _ in range(2))
            if stuck_ways(4, programs) is not None:
                more = told.drawn_program(draw, 4, 6)
                self.assertTrue(self.check(4, programs + (more,)))
                self.assertTrue(self.check(4, (more,) + programs))
                wide = (("either", (more, programs[1])),)
                if told.program_error(6, wide) is None:
                    self.assertTrue(self.check(4, (programs[0], wide)))

    def test_houses_of_single_ways(self):
        draw = random.Random(242)
        for _ in range(80):
            programs = tuple(told.drawn_program(draw, 4, 6) for _ in range(3))
            if not any(part[0] != "in" for program in programs for _, part in told.walk(program)):
                house = ((None,) * 4, tuple(told.ways_of(program, 24)[0] for program in programs))
                self.assertEqual(is_never_stuck(house), stuck_ways(4, programs) is None)

    def test_great_programs(self):
        draw = random.Random(243)
        began = time.time()
        texts = ["in {0} (either (in {1}) or (in {2}); either (in {3}) or (in {4}); "
                 "either (in {5}) or (in {1}); in {2})",
                 "in {0} (in {1}; in {2}; in {3}; in {4}; in {5}; in {1}; in {2}; in {3}; in {4}; in {5}; in {1})",
                 "again (in {0} (in {1} (in {2} (in {3} (in {4})))); again (in {5}); in {2} (in {4}); in {1} (in {3}))"]
        for text in texts:
            for _ in range(6):
                programs = tuple(told.read_program(text.format(*draw.sample(range(6), 6))) for _ in range(5))
                self.answer(stuck_ways, 6, programs)
                for choice in (tuple(told.spots(program)[-1] for program in programs), drawn_choice(draw, programs)):
                    self.answer(apart_by, programs, choice)
        # Each holds one room and has chosen among the others'; none of the many histories goes with the others'.
        text = ("in {0} (either (in {1}) or (in {2}); either (in {3}) or (in {4}); either (in {2}) or (in {4}); "
                "in 5)")
        row = tuple(told.read_program(text.format(*[(k + j) % 5 for j in range(5)])) for k in range(5))
        self.assertIsNone(self.answer(apart_by, row, ((0, 3),) * 5))
        self.answer(stuck_ways, 6, row)
        ascending = told.read_program("in 0 (in 1; in 2); in 1 (in 2; in 3); in 2 (in 3; in 4); in 3 (in 4; in 5)")
        self.assertIsNone(self.answer(stuck_ways, 6, (ascending,) * 5))
        self.assertLess(time.time() - began, 20)

    def test_the_told_places_come_together(self):
        draw = random.Random(244)
        for _ in range(150):
            programs = tuple(told.drawn_program(draw, 5, 8) for _ in range(draw.choice((2, 3, 4))))
            choice = drawn_choice(draw, programs, 0)
            given = apart_by(programs, choice)
            if given is not None:
                stands = [way_by(*told_of) for told_of in zip(programs, choice, given)]
                house = ((None,) * 6, tuple(way for way, _ in stands))
                self.assertTrue(comes_together(house, tuple(place for _, place in stands)))
