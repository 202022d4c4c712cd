"""The texts of runs: B8, and what B9 says of them."""

import random
import unittest

from roomways.errors import BadText
from roomways.runtexts import read_run, run_text
from tests.support import STRANGE, Case


class RunTexts(Case):
    def test_ordinary(self):
        self.tells("", run_text, ())
        self.tells("0", run_text, (0,))
        self.tells("43210", run_text, (4, 3, 2, 1, 0))
        self.tells((), read_run, "")
        self.tells((4,), read_run, "4")
        self.tells((0, 0, 1, 4, 3), read_run, "00143")

    def test_longest(self):
        draw = random.Random(1)
        run = tuple(draw.randrange(5) for _ in range(4000))
        text = "".join(map(str, run))
        self.tells(text, run_text, run)
        self.tells(run, read_run, text)
        self.raises(BadText(4000), read_run, text + "0")
        self.raises(BadText(4000), read_run, text + "x")
        self.raises(BadText(4000), read_run, text * 5)
        self.raises(BadText(3999), read_run, text[:-1] + "5")
        self.raises(BadText(3999), read_run, text[:-1] + "50")
        self.raises(BadText(0), read_run, "5" + text)

    def test_a_wrong_sign_at_each_place(self):
        for place in range(8):
            for sign in "56789 -+.ax\n~_":
                self.raises(BadText(place), read_run, "01234012"[:place] + sign + "01234012"[place:])
                self.raises(BadText(place), read_run, "01234012"[:place] + sign)
        self.raises(BadText(2), read_run, "01 x")
        self.raises(BadText(1), read_run, "0\n")

    def test_strange_values(self):
        for value in STRANGE:
            if type(value) is not str:
                self.raises(BadText(0), read_run, value)
            elif not value:
                self.tells((), read_run, value)
            elif value == "0":
                self.tells((0,), read_run, value)
            else:
                self.raises(BadText(0), read_run, value)
        self.raises(BadText(0), read_run, ("0", "1"))
        self.raises(BadText(0), read_run, 104)

    def test_read_back(self):
        draw = random.Random(2)
        texts = {}
        for _ in range(300):
            run = tuple(draw.randrange(5) for _ in range(draw.randint(0, 12)))
            self.tells(run, read_run, run_text(run))
            self.assertEqual(run, texts.setdefault(run_text(run), run))


if __name__ == "__main__":
    unittest.main()
