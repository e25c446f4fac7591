"""K5 and K6: how few pairs of leaves cross."""

import random
import unittest
from itertools import permutations, product

from forktold.errors import NotForked, TooMany, Unfit
from forktold.lines import common_line, keeps_line, line_count
from forktold.sides import crossings, facing, least_crossings, turn_costs, untangled
from forktold.trees import bush, comb, tree_of
from tests.reference import (
    all_trees, forked_trees, lines_of_lot, mixed_tree, slow_crossings, slow_lines, slow_parts, wide_nests,
)

MIXED = random.Random(41)
FOUR = all_trees(4)
FIVE = all_trees(5)
SMALL = [tree for size in (1, 2, 3) for tree in all_trees(size)] + FOUR

# Three dice of three sides each, each of which most often beats the next one:
# no order of the three nests is the best one for all pairs of them.
DICE = tree_of(9, ((1, 3, 8), (0, 5, 7), (2, 4, 6)))


def mixed_line(size):
    return tuple(MIXED.sample(range(size), size))


class Crossings(unittest.TestCase):
    def test_all_lines(self):
        for size in (1, 2, 3, 4):
            for line, other in product(permutations(range(size)), repeat=2):
                self.assertEqual(crossings(line, other), slow_crossings(line, other))
        for _ in range(50):
            line, other = mixed_line(9), mixed_line(9)
            self.assertEqual(crossings(line, other), slow_crossings(line, other))
        self.assertEqual(crossings(tuple(range(9)), tuple(range(9))[::-1]), 36)

    def test_unlike_sizes(self):
        for line, other in (((0,), (0, 1)), ((1, 0), (0,)), (tuple(range(9)), tuple(range(8)))):
            with self.assertRaises(Unfit):
                crossings(line, other)


def slow_turn_costs(tree, line):
    rows = []
    for nest in tree[1]:
        first, second = slow_parts(tree, nest)
        wrong = sum(line.index(a) > line.index(b) for a in first for b in second)
        rows.append((wrong, len(first) * len(second) - wrong))
    return tuple(rows)


class Costs(unittest.TestCase):
    def test_turn_costs(self):
        rows = [(tree, line) for size in (1, 2, 3, 4) for tree in forked_trees(size) for line in permutations(range(size))]
        rows += [(mixed_tree(9, True, MIXED), mixed_line(9)) for _ in range(20)]
        for tree, line in rows:
            with self.subTest(tree=tree, line=line):
                costs = turn_costs(tree, line)
                self.assertEqual(costs, slow_turn_costs(tree, line))
                self.assertEqual(least_crossings(tree, line), sum(min(pair) for pair in costs))

    def test_not_forked(self):
        for tree in SMALL:
            wide = wide_nests(tree)
            if wide:
                with self.assertRaises(NotForked) as caught:
                    turn_costs(tree, tuple(range(tree[0])))
                self.assertEqual(caught.exception.nest, wide[0])
        tree = tree_of(8, ((0, 1, 2), (3, 4, 5)))
        with self.assertRaises(NotForked) as caught:
            turn_costs(tree, mixed_line(8))
        self.assertEqual(caught.exception.nest, (0, 1, 2))


class Least(unittest.TestCase):
    def check(self, tree, line, lines):
        with self.subTest(tree=tree, line=line):
            least = min(slow_crossings(line, other) for other in lines)
            self.assertEqual(least_crossings(tree, line), least)
            found = untangled(tree, line)
            self.assertTrue(keeps_line(tree, found))
            self.assertEqual(slow_crossings(line, found), least)
            self.assertEqual(least == 0, keeps_line(tree, line))

    def test_all_lines(self):
        for tree in SMALL:
            lines = slow_lines(tree)
            for line in permutations(range(tree[0])):
                self.check(tree, line, lines)

    def test_more_leaves(self):
        for tree in MIXED.sample(FIVE, 20):
            for _ in range(6):
                self.check(tree, mixed_line(5), slow_lines(tree))
        for _ in range(12):
            tree = mixed_tree(9, False, MIXED)
            if line_count(tree) < 3000:
                self.check(tree, mixed_line(9), lines_of_lot(tree, tuple(range(9))))

    def test_no_part_goes_first(self):
        lines = lines_of_lot(DICE, tuple(range(9)))
        self.check(DICE, tuple(range(9)), lines)
        self.check(DICE, tuple(range(9))[::-1], lines)
        for _ in range(6):
            self.check(DICE, mixed_line(9), lines)
        # Here it makes a difference which part goes first all the same.
        for nests in (((0, 5, 6), (1, 2, 7), (3, 4)), ((0, 5, 7), (1, 2, 8), (3, 4, 6)), ((0, 5, 6), (1, 2, 7), (3, 4), (8,))):
            tree = tree_of(sum(map(len, nests)), nests)
            line = tuple(range(tree[0]))
            self.check(tree, line, lines_of_lot(tree, line))
            self.check(tree, line[::-1], lines_of_lot(tree, line))
        pairs = tree_of(6, ((0, 5), (1, 4), (2, 3)))
        some = lines_of_lot(pairs, tuple(range(6)))
        for line in permutations(range(6)):
            if line[0] == 0 and line[1] < line[2]:
                self.check(pairs, line, some)

    def test_bush_keeps_all(self):
        for _ in range(5):
            line = mixed_line(9)
            self.assertEqual(least_crossings(bush(9), line), 0)
            self.assertEqual(untangled(bush(9), line), line)


class Facing(unittest.TestCase):
    def test_all_pairs_of_four_leaves(self):
        crossed = {pair: slow_crossings(*pair) for pair in product(permutations(range(4)), repeat=2)}
        for tree, other in product(FOUR, repeat=2):
            least = min(crossed[pair] for pair in product(slow_lines(tree), slow_lines(other)))
            self.assertEqual(facing(tree, other), least)
            self.assertEqual(least == 0, common_line(4, (tree, other)) is not None)

    def test_more_leaves(self):
        for many in (1, 2, 3):
            for tree, other in product(all_trees(many), repeat=2):
                self.assertEqual(facing(tree, other), 0)
        for _ in range(25):
            tree, other = mixed_tree(6, True, MIXED), mixed_tree(6, MIXED.random() < 0.7, MIXED)
            least = min(slow_crossings(*pair) for pair in product(slow_lines(tree), slow_lines(other)[:120]))
            if line_count(other) <= 120:
                self.assertEqual(facing(tree, other), least)
                self.assertEqual(facing(other, tree), least)
        for _ in range(10):
            tree, other = mixed_tree(9, True, MIXED), mixed_tree(9, False, MIXED)
            self.assertEqual(facing(tree, other) == 0, common_line(9, (tree, other)) is not None)
            self.assertEqual(facing(tree, other), facing(other, tree))

    def test_errors(self):
        few = tree_of(7, ((0, 1), (0, 1, 2, 3)))
        many = tree_of(8, ((0, 1), (2, 3), (4, 5), (6, 7)))
        more = tree_of(8, ((0, 1), (2, 3), (0, 1, 2, 3), (0, 1, 2, 3, 4), (0, 1, 2, 3, 4, 5)))
        self.assertEqual([line_count(few), line_count(many), line_count(more)], [288, 384, 192])
        self.assertEqual(facing(few, few), 0)
        self.assertEqual([facing(many, more), facing(more, many)], [0, 0])
        self.assertEqual([facing(bush(9), comb(9)), facing(comb(9), bush(9))], [0, 0])
        for tree, other in ((many, many), (bush(6), bush(6)), (bush(8), many), (many, bush(8))):
            with self.assertRaises(TooMany) as caught:
                facing(tree, other)
            self.assertEqual(caught.exception.limit, 300)
        for tree, other in ((bush(7), bush(8)), (comb(3), comb(2)), ((1, ()), bush(9))):
            with self.assertRaises(Unfit):
                facing(tree, other)


if __name__ == "__main__":
    unittest.main()
