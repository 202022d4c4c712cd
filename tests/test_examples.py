"""The examples of the document, each with the answer that it shows."""

import contextlib
import io
import pathlib
import unittest

from roomways import errors
from tests.support import shape

EXAMPLES = pathlib.Path(__file__).parent / "examples.txt"


def examples():
    """Return the pairs of a row that is asked, and the rows of its answer, in order."""
    told = []
    for row in EXAMPLES.read_text(encoding="ascii").splitlines():
        if row.startswith(">>> "):
            told.append((row[4:], []))
        elif not row.startswith("#"):
            told[-1][1].append(row)
    return told


class Examples(unittest.TestCase):
    def check_error(self, asked, answer, names):
        wanted = eval(answer.removeprefix("raises "), vars(errors))
        with self.assertRaises(type(wanted), msg=asked) as caught:
            eval(asked, names)
        self.assertIs(type(wanted), type(caught.exception), asked)
        self.assertEqual(shape(vars(wanted)), shape(vars(caught.exception)), asked)

    def test_all(self):
        names = {}
        self.assertEqual(315, len(examples()))
        for asked, answer in examples():
            if not answer:
                exec(asked, names)
            elif answer[0].startswith("raises "):
                self.check_error(asked, answer[0], names)
            elif asked.startswith("print("):
                with contextlib.redirect_stdout(io.StringIO()) as shown:
                    exec(asked, names)
                self.assertEqual("\n".join(answer) + "\n", shown.getvalue(), asked)
            else:
                self.assertEqual(shape(eval(answer[0])), shape(eval(asked, names)), asked)


if __name__ == "__main__":
    unittest.main()
