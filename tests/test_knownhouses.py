"""Known houses: A8."""

import unittest

from roomways.errors import Unfit
from roomways.houses import house_error
from roomways.knownhouses import known, known_names
from tests import retold
from tests.support import STRANGE, Case

NAMES = ("crossed", "gated", "handed", "level", "meek", "proud", "ranked", "row", "table")


def around(*rooms):
    return tuple([("in", room) for room in rooms] + [("out", room) for room in rooms[::-1]])


class KnownNames(Case):
    def test_names(self):
        self.tells(NAMES, known_names)
        self.assertEqual(tuple(sorted(known_names())), known_names())


class Known(Case):
    def test_plain_rooms(self):
        one, other = around(0, 1), around(1, 0)
        self.tells(((None, None), (one, other)), known, "table", 2)
        self.tells(((None,) * 3, (one, around(1, 2), around(2, 0))), known, "table", 3)
        self.tells(((None,) * 3, (one, around(1, 2), around(0, 2))), known, "handed", 3)
        self.tells(((None,) * 4, (one, around(1, 2), around(2, 3), around(0, 3))), known, "handed", 4)
        self.tells(((None, None), (one, one)), known, "handed", 2)
        self.tells(((None,) * 4, (around(3, 0, 1), around(3, 1, 2), around(3, 2, 0))), known, "gated", 3)
        self.tells(((None, None), (one,) * 5), known, "row", 5)
        self.tells(((None, None), (one, other, one, other, one)), known, "crossed", 5)
        self.assertEqual(6, len(known("gated", 5)[0]))

    def test_doors(self):
        orders = ((1, 2), (0, 2), (0, 1))
        ways = (around(0),) * 3
        ranked = (("-", "stand", "stand"), ("bow", "-", "stand"), ("bow", "bow", "-"))
        self.tells((((ranked, orders),), ways), known, "ranked", 3)
        for name, word in (("level", "even"), ("meek", "bow"), ("proud", "stand")):
            table = (("-", word, word), (word, "-", word), (word, word, "-"))
            self.tells((((table, orders),), ways), known, name, 3)

    def test_all(self):
        for name in NAMES:
            for many in (2, 3, 4, 5):
                self.agrees(retold.known, known, name, many)
                self.assertIsNone(house_error(known(name, many)))
                self.assertEqual(many, len(known(name, many)[1]))

    def test_other_numbers(self):
        for name in NAMES:
            for many in (-1, 0, 1, 6, 7, 10 ** 399, True, False, None, "2", (2,), [2], {2: 2}):
                self.raises(Unfit(), known, name, many)

    def test_other_names(self):
        for name in ("", "Table", "table ", " row", "tables", "tabl", "dining", "crossed\n", 0, None, ("table",),
                     ["table"], {"table": 2}, True) + STRANGE:
            self.raises(Unfit(), known, name, 2)
            self.raises(Unfit(), known, name, 6)

    def test_strange_numbers(self):
        for many in STRANGE:
            self.agrees(retold.known, known, "row", many)
            self.agrees(retold.known, known, "meek", many)

    def test_answers_stay_whatever_is_asked_between(self):
        asked = [(name, many) for name in NAMES for many in (2, 3, 4, 5)]
        ahead = [known(name, many) for name, many in asked]
        behind = [known(name, many) for name, many in reversed(asked)]
        self.assertEqual(ahead, behind[::-1])


if __name__ == "__main__":
    unittest.main()
