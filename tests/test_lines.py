"""K1 to K4, and K6: lines that keep trees."""

import random
import unittest
from itertools import permutations, product

from forktold.errors import NotForked, NotNest, NotOrder, TooFar
from forktold.lines import (
    bar, bar_holds, common_line, keeps_line, line_count, line_place, nth_line, turned, turns_between,
)
from forktold.trees import bush, comb, tree_of
from tests.reference import (
    ODD, all_lots, all_trees, changed, forked_trees, is_together, lines_of_lot, mixed_tree, nests_of, rank, slow_at,
    slow_lines, slow_parts, subsets, wide_nests,
)

MIXED = random.Random(31)
FOUR = all_trees(4)
FIVE = all_trees(5)
SMALL = [tree for size in (1, 2, 3) for tree in all_trees(size)] + FOUR
SOME = SMALL + MIXED.sample(FIVE, 25) + [mixed_tree(6, forked, MIXED) for forked in (True, False, False)]


def loose(tree, line):
    """The place of the first nest that does not stand together, None if all do."""
    return next((at for at, nest in enumerate(tree[1]) if not is_together(line, nest)), None)


class Numbers(unittest.TestCase):
    def test_all_lines(self):
        for tree in SOME:
            lines = slow_lines(tree)
            with self.subTest(tree=tree):
                self.assertEqual(line_count(tree), len(lines))
                self.assertEqual([nth_line(tree, number) for number in range(len(lines))], lines)
                self.assertEqual([line_place(tree, line) for line in lines], list(range(len(lines))))

    def test_the_twelve_lines_that_the_document_shows(self):
        told = """0 2 1 3, 0 2 3 1, 1 0 2 3, 1 2 0 3, 1 3 0 2, 1 3 2 0,
            2 0 1 3, 2 0 3 1, 3 0 2 1, 3 1 0 2, 3 1 2 0, 3 2 0 1"""
        lines = [tuple(map(int, row.split())) for row in told.split(",")]
        self.assertEqual([nth_line(tree_of(4, ((0, 2),)), number) for number in range(12)], lines)

    def test_too_far(self):
        for tree in SOME:
            count = line_count(tree)
            for number in (count, count + 1, 10 ** 399):
                with self.assertRaises(TooFar) as caught:
                    nth_line(tree, number)
                self.assertEqual(caught.exception.count, count)

    def test_not_in_order(self):
        for tree in SMALL:
            for line in permutations(range(tree[0])):
                if loose(tree, line) is not None:
                    with self.assertRaises(NotOrder) as caught:
                        line_place(tree, line)
                    self.assertEqual(caught.exception.place, loose(tree, line))

    def test_nine_leaves(self):
        self.assertEqual(line_count(bush(9)), 362880)
        self.assertEqual(line_count(comb(9)), 256)
        self.assertEqual(nth_line(bush(9), 362879), (8, 7, 6, 5, 4, 3, 2, 1, 0))
        for _ in range(6):
            tree = mixed_tree(9, False, MIXED)
            lines = sorted(lines_of_lot(tree, tuple(range(9))))
            self.assertEqual(line_count(tree), len(lines))
            for number in [0, len(lines) - 1, *(MIXED.randrange(len(lines)) for _ in range(10))]:
                self.assertEqual(nth_line(tree, number), lines[number])
                self.assertEqual(line_place(tree, lines[number]), number)

    def test_one_and_two_leaves(self):
        self.assertEqual([line_count((1, ())), nth_line((1, ()), 0), line_place((1, ()), (0,))], [1, (0,), 0])
        self.assertEqual([nth_line(bush(2), 0), nth_line(bush(2), 1)], [(0, 1), (1, 0)])


class Keeping(unittest.TestCase):
    def test_all_lines(self):
        for tree in SOME:
            for line in permutations(range(tree[0])):
                self.assertIs(keeps_line(tree, line), loose(tree, line) is None)

    def test_any_value(self):
        for tree in ((1, ()), bush(2), bush(3), comb(3), comb(4)):
            lines = slow_lines(tree)
            for value in [*ODD, *(other for line in lines for other in changed(line))]:
                plain = type(value) is tuple and all(type(item) is int for item in value)
                self.assertIs(keeps_line(tree, value), plain and value in lines, repr(value))
        for value in ((False,), [0], "0", {0: 0}, (0, 0), ()):
            self.assertIs(keeps_line((1, ()), value), False)

    def test_from_behind_and_finer(self):
        for tree, other in product(FOUR, repeat=2):
            lines = set(slow_lines(tree))
            self.assertEqual(lines, {line[::-1] for line in lines})
            if set(other[1]) <= set(tree[1]):
                self.assertTrue(all(keeps_line(other, line) for line in lines))

    def test_what_is_left(self):
        for tree in MIXED.sample(FIVE, 20) + FOUR:
            for line in slow_lines(tree)[::5]:
                for lot in all_lots(tree[0], 1):
                    left = tuple(lot.index(leaf) for leaf in line if leaf in lot)
                    self.assertTrue(keeps_line(slow_at(tree, lot), left))


def first_with(size, nests):
    """The first line in which all nests stand together, None if there is none."""
    lines = permutations(range(size))
    return next((line for line in lines if all(is_together(line, nest) for nest in nests)), None)


def slow_is_bar(size, trees, value):
    """Whether a tuple of nests is right for bar."""
    if not set(value) <= set(nests_of(trees)) or list(value) != sorted(set(value), key=rank):
        return False
    if first_with(size, value) is not None:
        return False
    return all(first_with(size, [nest for nest in value if nest != other]) is not None for other in value)


ROWS = [(4, ()), (1, ((1, ()),)), (2, (bush(2), bush(2))), (3, tuple(all_trees(3)))]
ROWS += [(4, pair) for pair in product(FOUR, repeat=2)]
ROWS += [(4, tuple(MIXED.choices(FOUR, k=many))) for many in (3, 3, 3, 4, 12) for _ in range(20)]
ROWS += [(5, tuple(MIXED.choices(FIVE, k=many))) for many in (2, 2, 3, 4, 12) for _ in range(15)]
ROWS += [(6, tuple(mixed_tree(6, False, MIXED) for _ in range(many))) for many in (2, 2, 2, 3) for _ in range(4)]


class Common(unittest.TestCase):
    def test_first_line_or_bar(self):
        found = 0
        for size, trees in ROWS:
            with self.subTest(trees=trees):
                line = first_with(size, nests_of(trees))
                self.assertEqual(common_line(size, trees), line)
                value = bar(size, trees)
                self.assertEqual(value is None, line is not None)
                self.assertEqual(bar_holds(size, trees, value), value is not None)
                if value is not None:
                    found += 1
                    self.assertIs(type(value), tuple)
                    self.assertTrue(slow_is_bar(size, trees, value))
        self.assertGreater(found, 50)

    def test_bar_holds_for_all_sets_of_nests(self):
        rows = [(size, trees) for size, trees in ROWS if size == 4 and len(nests_of(trees)) in (4, 5, 6)]
        for size, trees in rows[:60] + rows[-20:]:
            for value in subsets(nests_of(trees)):
                self.assertEqual(bar_holds(size, trees, value), slow_is_bar(size, trees, value))
        A, B, C = tree_of(4, ((0, 2),)), tree_of(4, ((0, 1), (2, 3))), tree_of(4, ((0, 3),))
        for value in permutations(((0, 1), (0, 2), (0, 3))):
            self.assertEqual(bar_holds(4, (A, B, C), value), list(value) == sorted(value))
        # Not of these trees, though they stand together in no line.
        self.assertFalse(bar_holds(4, (A, B, C), ((0, 1), (0, 2), (1, 2))))
        self.assertFalse(bar_holds(4, (A, B, C), ((0, 1), (0, 1), (0, 2), (0, 3))))

    def test_bar_holds_for_any_value(self):
        trees = (tree_of(4, ((0, 2),)), tree_of(4, ((0, 1), (2, 3))), tree_of(4, ((0, 3),)))
        right = ((0, 1), (0, 2), (0, 3))
        for value in [*ODD, *changed(right)]:
            self.assertIs(bar_holds(4, trees, value), repr(value) == repr(right), repr(value))
        for value in [None, (), *ODD]:
            self.assertIs(bar_holds(4, (bush(4), comb(4)), value), False)

    def test_nine_leaves(self):
        for many in (2, 3, 12):
            for _ in range(6):
                trees = tuple(mixed_tree(9, False, MIXED) for _ in range(many))
                value, line = bar(9, trees), common_line(9, trees)
                self.assertEqual(value is None, line is not None)
                self.assertEqual(bar_holds(9, trees, value), line is None)
                if line is not None:
                    self.assertTrue(all(is_together(line, nest) for nest in nests_of(trees)))
        line = common_line(9, tuple(tree_of(9, ((leaf, leaf + 1),)) for leaf in range(8)))
        self.assertEqual(line, tuple(range(9)))
        round_about = tuple(tree_of(9, (tuple(sorted((leaf, (leaf + 1) % 9))),)) for leaf in range(9))
        self.assertEqual(bar(9, round_about), tuple(sorted(tree[1][0] for tree in round_about)))


def slow_turned(line, nest):
    inner = [leaf for leaf in line if leaf in nest][::-1]
    return tuple(inner.pop(0) if leaf in nest else leaf for leaf in line)


class Turned(unittest.TestCase):
    def test_turned(self):
        for tree in SOME:
            for line in slow_lines(tree)[::3]:
                for nest in tree[1]:
                    found = turned(tree, line, nest)
                    self.assertEqual(found, slow_turned(line, nest))
                    self.assertTrue(keeps_line(tree, found))
                    self.assertEqual(turned(tree, found, nest), line)

    def test_errors_in_order(self):
        tree = tree_of(4, ((0, 1), (2, 3)))
        for lot in ((), (0,), (0, 2), (1, 2, 3)):
            for line in ((0, 1, 2, 3), (0, 2, 1, 3)):
                with self.assertRaises(NotNest) as caught:
                    turned(tree, line, lot)
                self.assertEqual(caught.exception.lot, lot)
        for line in ((0, 2, 1, 3), (0, 2, 3, 1), (2, 0, 1, 3)):
            for nest in tree[1]:
                with self.assertRaises(NotOrder) as caught:
                    turned(tree, line, nest)
                self.assertEqual(caught.exception.place, loose(tree, line))
        with self.assertRaises(NotNest):
            turned((1, ()), (0,), (0,))


class Between(unittest.TestCase):
    def test_all_pairs_of_lines(self):
        for tree in [tree for size in (1, 2, 3, 4) for tree in forked_trees(size)] + forked_trees(5)[::20]:
            for line in slow_lines(tree):
                reached = {}
                for nests in subsets(tree[1]):
                    last = line
                    for nest in MIXED.sample(nests, len(nests)):
                        last = slow_turned(last, nest)
                    reached[last] = nests
                self.assertEqual(len(reached), line_count(tree))
                for last, nests in reached.items():
                    self.assertEqual(turns_between(tree, line, last), nests)

    def test_nine_leaves(self):
        for _ in range(10):
            tree = mixed_tree(9, True, MIXED)
            line, last = (nth_line(tree, MIXED.randrange(256)) for _ in range(2))
            for nest in turns_between(tree, line, last):
                line = slow_turned(line, nest)
            self.assertEqual(line, last)

    def test_errors_in_order(self):
        right, wrong = (0, 1, 2, 3), (0, 2, 1, 3)
        for tree in FOUR:
            wide = wide_nests(tree)
            for line, last in product(permutations(range(4)), (right, wrong)):
                first = loose(tree, line) if loose(tree, line) is not None else loose(tree, last)
                if wide:
                    with self.assertRaises(NotForked) as caught:
                        turns_between(tree, line, last)
                    self.assertEqual(caught.exception.nest, wide[0])
                elif first is not None:
                    with self.assertRaises(NotOrder) as caught:
                        turns_between(tree, line, last)
                    self.assertEqual(caught.exception.place, first)
        self.assertTrue(any(len(slow_parts(tree, tree[1][0])) > 2 and len(tree[1]) > 1 for tree in FOUR))
        tree = tree_of(8, ((0, 1, 2), (3, 4, 5)))
        with self.assertRaises(NotForked) as caught:
            turns_between(tree, tuple(range(8)), (0, 3, 1, 2, 4, 5, 6, 7))
        self.assertEqual(caught.exception.nest, (0, 1, 2))


if __name__ == "__main__":
    unittest.main()
