"""The examples of the document, as they stand in examples.txt, and those of README.md."""

import doctest
import unittest
from pathlib import Path

from forktold import errors


def examples():
    """The pairs of what is typed and what is told, None where nothing is."""
    rows = Path(__file__).with_name("examples.txt").read_text(encoding="ascii").splitlines()
    for row, behind in zip(rows, rows[1:] + [""]):
        if row.startswith(">>> "):
            yield row[4:], behind if behind and not behind.startswith(">>>") else None


class Examples(unittest.TestCase):
    def test_all(self):
        names = {}
        for typed, expected in examples():
            with self.subTest(typed=typed):
                if expected is None:
                    exec(typed, names)
                elif expected.startswith("raises "):
                    self.check_error(typed, expected[len("raises "):], names)
                else:
                    found = eval(typed, names)
                    self.assertEqual(repr(found), repr(eval(expected)))

    def test_found(self):
        self.assertEqual(len([expected for _, expected in examples() if expected is not None]), 100)

    def test_readme(self):
        readme = Path(__file__).resolve().parent.parent / "README.md"
        failed, tried = doctest.testfile(str(readme), module_relative=False)
        self.assertEqual(failed, 0)
        self.assertGreater(tried, 10)

    def check_error(self, typed, expected, names):
        error = eval(expected, vars(errors).copy())
        with self.assertRaises(type(error)) as caught:
            eval(typed, names)
        self.assertIs(type(caught.exception), type(error))
        self.assertEqual(repr(vars(caught.exception)), repr(vars(error)))


if __name__ == "__main__":
    unittest.main()
