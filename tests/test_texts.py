"""A8: texts of trees."""

import unittest
from unittest import mock

from forktold import texts
from forktold.errors import BadText
from forktold.texts import parse_tree, tree_text
from forktold.trees import bush, comb
from tests.reference import ODD, all_trees


def slow_text(tree, lot):
    """The text by the greatest lots within, found from the greatest down."""
    if len(lot) == 1:
        return str(lot[0])
    found, left = [], set(lot)
    inner = [nest for nest in tree[1] if set(nest) < set(lot)] + [(leaf,) for leaf in lot]
    for other in sorted(inner, key=len, reverse=True):
        if set(other) <= left:
            left -= set(other)
            found.append(other)
    return "({})".format(" ".join(slow_text(tree, other) for other in sorted(found)))


def all_texts(limit):
    """The trees of at most so many leaves, by their texts."""
    return {slow_text(tree, tuple(range(size))): tree for size in range(1, limit + 1) for tree in all_trees(size)}


class Texts(unittest.TestCase):
    def check_place(self, value, place):
        with self.assertRaises(BadText) as caught:
            parse_tree(value)
        self.assertEqual(caught.exception.place, place, value)
        self.assertIs(type(caught.exception.place), int)

    def test_there_and_back(self):
        for text, tree in all_texts(5).items():
            self.assertEqual(tree_text(tree), text)
            self.assertEqual(parse_tree(text), tree)

    def test_ends_of_sizes(self):
        self.assertEqual(tree_text((1, ())), "0")
        self.assertEqual(tree_text(bush(9)), "(0 1 2 3 4 5 6 7 8)")
        self.assertEqual(tree_text(comb(9)), "((((((((0 1) 2) 3) 4) 5) 6) 7) 8)")
        for tree in (bush(9), comb(9), bush(2)):
            self.assertEqual(parse_tree(tree_text(tree)), tree)

    def test_each_beginning_with_each_sign_behind(self):
        """With a lower bound on leaves all texts there are can be looked at."""
        for limit in (1, 2, 3, 4, 5):
            known = all_texts(limit)
            begun = {text[:many] for text in known for many in range(len(text) + 1)}
            with mock.patch.object(texts, "MAX_LEAVES", limit):
                for value in sorted(begun) + [start + sign for start in begun for sign in "012345() x"]:
                    if value in known:
                        self.assertEqual(parse_tree(value), known[value])
                    else:
                        self.check_place(value, len(value) if value in begun else len(value) - 1)

    def test_no_string(self):
        for value in ODD:
            if not isinstance(value, str):
                self.check_place(value, 0)
        self.check_place(b"0", 0)

    def test_strings(self):
        rows = [
            ("", 0), (" ", 0), (" 0", 0), ("1", 0), ("x", 0), (")", 0), ("0 ", 1), ("00", 1), ("0)", 1), ("(1 0)", 1),
            ("(0)", 2), ("(0 1", 4), ("(0 1) ", 5), ("(0 1)\n", 5), ("(0  1)", 3), ("( 0 1)", 1), ("(0 1 )", 5),
            ("(0,1)", 2), ("(0 0)", 3), ("(01)", 2), ("(0 2)", 3), ("((0 2) 3)", 7), ("((0 2) 1)", None),
            ("(0 (2 1))", 4), ("(0 (1 3) 2)", None), ("((1 2) 0)", 2), ("[0 1]", 0), ("(0 1]", 4), ("(((", 3), ("()", 1),
            ("(0 9)", 3), ("(0 1 2 3 4 5 6 7 8 9)", 18), ("(0 1 2 3 4 5 6 7 8", 18), ("(0 1 2 3 4 5 6 7 8 ", 18),
            ("(0 1 2 3 4 5 6 7 (8", 17), ("(0 1 2 3 4 5 6 (7 8))", None), ("(((((((((", 8), ("((((((((0", 9),
            ("((0 8)", 6), ("((0 8) 1 (2", 11), ("((0 (1 8", 8), ("((0 (8", 5), ("((0 7 8) 1)", 10), ("(0 (1 (2 (7", 11),
            ("(0 (1 (2 (8", 10), ("((0 1) 2) ", 9), ("0" * 3000, 1), ("(" * 3000, 8), ("(0 1)" + " " * 2995, 5),
            ("((0 (3 8)) ", 11), ("((0 (3 8) ", 10), ("(0 \u0661)", 3), ("(0 1\n)", 4),
        ]
        for value, place in rows:
            with self.subTest(value=value):
                if place is None:
                    self.assertEqual(tree_text(parse_tree(value)), value)
                else:
                    self.check_place(value, place)


if __name__ == "__main__":
    unittest.main()
