"""The bounds and the errors, and where each name of the interface stands."""

import copy
import importlib
import unittest

from roomways import bounds, errors
from tests.support import PARAMETERS, STRANGE, shape

BOUNDS = {
    "MAX_ROOMS": 6, "MAX_HANDS": 5, "MAX_STEPS": 24, "MAX_MOVES": 4000, "MAX_RINGS": 400, "MAX_PARTS": 12,
    "MAX_DEEP": 5, "MAX_WAYS": 400, "MAX_KINDS": 5, "MAX_COME": 4000, "MAX_EDITS": 60,
}
FIELDS = {
    "Unfit": None, "BadHouse": "error", "BadRun": "place", "BadText": "place", "BadLog": "place",
    "Refused": "word", "TooMany": "limit", "NothingToUndo": None,
}
PLACES = {
    "ways": ("way_error", "held", "wish", "entries"),
    "houses": ("door_error", "house_error", "users"),
    "housetexts": ("house_text", "read_house"),
    "knownhouses": ("known_names", "known"),
    "standings": ("start", "standing_error", "inside", "flag", "token"),
    "steps": ("next_step", "stepped", "movers", "barred"),
    "standingtexts": ("standing_text", "read_standing"),
    "runs": ("behind", "words", "entered", "first_double"),
    "runtexts": ("run_text", "read_run"),
    "together": ("apart", "arcs", "comes_together", "order_of", "order_error", "bar", "bar_error", "meeting"),
    "holds": ("rings_to_be", "hold_rings"),
    "doors": ("bow_rings", "wait_rings", "doors_to_be", "door_rings"),
    "times": ("events", "order_of_time", "time_error"),
    "stuckness": ("stuck_ring", "is_never_stuck"),
    "stalls": ("stall", "stall_error"),
    "nevers": ("never", "never_error"),
    "homes": ("tries", "home_bound", "home_run"),
    "keepouts": ("free_doors", "chain", "chain_error", "can_be_kept_out", "keeping", "keeping_error"),
    "gates": ("gated", "fewest_gate", "gate_paper", "gate_error"),
    "numbers": ("numbers", "numbers_error", "room_round", "round_error"),
    "programs": ("program_error", "ways_of"),
    "programtexts": ("program_text", "read_program"),
    "histories": ("spots", "held_at", "histories", "way_by", "apart_by", "stuck_ways"),
    "supplies": ("supply_ring", "supply_ring_error", "fewest_hands", "supply_house"),
    "alls": ("standings_of", "nearest"),
    "looks": ("together_by_all", "stuck_by_all", "kept_by_all", "longest_by_all"),
    "officelogs": ("log_text", "read_log", "office_behind"),
    "verdicts": ("verdict", "verdict_error"),
}


class Bounds(unittest.TestCase):
    def test_values(self):
        for name, value in BOUNDS.items():
            self.assertEqual(shape(value), shape(getattr(bounds, name)), name)


class Errors(unittest.TestCase):
    def test_bases(self):
        self.assertEqual((ValueError,), errors.WayError.__bases__)
        for name in FIELDS:
            self.assertEqual((errors.WayError,), getattr(errors, name).__bases__, name)

    def test_fields_by_place_and_by_name(self):
        values = STRANGE + (("way", 0, ("step", 1)), "hand", [1, [2]], {"a": (1,)})
        for name, field in FIELDS.items():
            for value in values if field else ():
                ahead = copy.deepcopy(value)
                for error in (getattr(errors, name)(value), getattr(errors, name)(**{field: value})):
                    self.assertIs(value, getattr(error, field))
                    self.assertEqual({field: shape(ahead)}, {key: shape(kept) for key, kept in vars(error).items()})
                    self.assertIsInstance(error, ValueError)

    def test_fields_stay_apart(self):
        one, other = errors.BadText(1), errors.BadText(place=2)
        self.assertEqual((1, 2), (one.place, other.place))

    def test_without_fields(self):
        for name in ("Unfit", "NothingToUndo", "WayError"):
            self.assertEqual({}, vars(getattr(errors, name)()))

    def test_wrong_arguments(self):
        for name, field in FIELDS.items():
            if field:
                self.assertRaises(TypeError, getattr(errors, name))
                self.assertRaises(TypeError, getattr(errors, name), 1, 2)

    def test_raised_and_caught(self):
        for name, field in FIELDS.items():
            made = getattr(errors, name)
            with self.assertRaises(errors.WayError) as caught:
                raise made(3) if field else made()
            self.assertIs(made, type(caught.exception))
            str(caught.exception)


class Interface(unittest.TestCase):
    def test_each_function_is_defined_in_its_file(self):
        for module, names in PLACES.items():
            told = importlib.import_module("roomways." + module)
            for name in names:
                function = getattr(told, name)
                self.assertEqual("roomways." + module, function.__module__)
                code = function.__code__
                self.assertEqual(PARAMETERS[name], code.co_varnames[:code.co_argcount])
                self.assertIsNone(function.__defaults__)

    def test_each_class_is_defined_in_its_file(self):
        for module, name, methods in (("offices", "Office", "inside waits entered go build lead undo twin __eq__ __ne__"),
                                      ("shells", "Shell", "say")):
            made = getattr(importlib.import_module("roomways." + module), name)
            self.assertEqual("roomways." + module, made.__module__)
            self.assertEqual((object,), made.__bases__)
            for method in methods.split() + ["__init__"]:
                self.assertIn(method, vars(made))

    def test_each_error_is_defined_in_its_file(self):
        for name in ["WayError"] + list(FIELDS):
            self.assertEqual("roomways.errors", getattr(errors, name).__module__)


if __name__ == "__main__":
    unittest.main()
