"""L1 to L7: how many trees there are."""

import random
import unittest
from fractions import Fraction
from math import comb as choose
from math import factorial

from forktold.counts import (
    chance, finer_count, forked_count, forked_finer, forked_kept_by_line, forked_place, forked_shape_count,
    forked_with_nest, kept_by_line, mean_pairs, namings, nth_forked, shape_count, tree_count, with_nest,
)
from forktold.errors import NotForked, TooFar
from forktold.lines import keeps_line, line_count
from forktold.nests import finer
from forktold.trees import bush, comb, tree_error, tree_of
from tests.reference import all_lots, all_trees, rank, shape, wide_nests

MIXED = random.Random(51)
TREES = {size: all_trees(size) for size in range(1, 7)}
FORKED = {size: [tree for tree in TREES[size] if len(tree[1]) == size - 1] for size in TREES}


def tree_counts(most):
    """How many trees there are, by the parts that leaf 0 is in and groups of the rest."""
    counts, groups = [0, 1], [1, 1]
    for size in range(2, most + 1):
        # groups[n] is how many groups of trees have n leaves in all: for n
        # above 1 as often one tree as several.
        several = sum(choose(size - 1, first - 1) * counts[first] * groups[size - first] for first in range(1, size))
        counts.append(several)
        groups.append(2 * several)
    return counts


def shape_counts(most):
    """How many shapes there are, by sums over divisors."""
    counts, groups = [0, 1], [1, 1]

    def weight(total):
        return sum(part * counts[part] for part in range(1, len(counts)) if total % part == 0)

    weights = [0, 1]
    for size in range(2, most + 1):
        small = weight(size)
        whole = small + sum(weights[part] * groups[size - part] for part in range(1, size))
        counts.append(whole // size)
        groups.append(2 * counts[size])
        weights.append(small + size * counts[size])
    return counts


def forked_shape_counts(most):
    counts = [0, 1]
    for size in range(2, most + 1):
        pairs = sum(counts[first] * counts[size - first] for first in range(1, size))
        counts.append((pairs + (counts[size // 2] if size % 2 == 0 else 0)) // 2)
    return counts


class Trees(unittest.TestCase):
    def test_all_trees(self):
        for size in TREES:
            self.assertEqual(tree_count(size), len(TREES[size]))
            self.assertEqual(forked_count(size), len(FORKED[size]))

    def test_to_the_last_size(self):
        counts = tree_counts(200)
        odd = 1
        for size in range(1, 201):
            self.assertEqual(tree_count(size), counts[size])
            odd *= max(1, 2 * size - 3)
            self.assertEqual(forked_count(size), odd)

    def test_finer(self):
        for size in range(1, 6):
            for tree in TREES[size] if size < 5 else MIXED.sample(TREES[5], 25):
                self.assertEqual(finer_count(tree), sum(finer(other, tree) for other in TREES[size]))
                self.assertEqual(forked_finer(tree), sum(finer(other, tree) for other in FORKED[size]))
        self.assertEqual([finer_count(bush(9)), forked_finer(bush(9))], [12818912, 2027025])
        self.assertEqual([finer_count(comb(9)), forked_finer(comb(9)), finer_count((1, ()))], [1, 1, 1])
        self.assertEqual([finer_count(tree_of(9, ((0, 1, 2, 3),))), forked_finer(tree_of(9, ((0, 1, 2, 3),)))],
                         [26 * 2752, 15 * 945])


class Nests(unittest.TestCase):
    def test_all_lots(self):
        for size in range(2, 7):
            for lot in all_lots(size, 2):
                having = sum(lot in tree[1] for tree in TREES[size])
                forked = sum(lot in tree[1] for tree in FORKED[size])
                self.assertEqual(with_nest(size, lot), having)
                self.assertEqual(forked_with_nest(size, lot), forked)
                told = Fraction(forked, len(FORKED[size]))
                self.assertEqual(chance(size, lot), (told.numerator, told.denominator))

    def test_mean_pairs(self):
        for size in range(1, 7):
            pairs = sum(len(nest) == 2 for tree in FORKED[size] for nest in tree[1])
            told = Fraction(pairs, len(FORKED[size]))
            self.assertEqual(mean_pairs(size), (told.numerator, told.denominator))

    def test_great_sizes(self):
        everyone = tuple(range(200))
        self.assertEqual([with_nest(200, everyone), forked_with_nest(200, everyone)], [tree_count(200), forked_count(200)])
        self.assertEqual(chance(200, everyone), (1, 1))
        self.assertEqual(with_nest(200, (0, 199)), tree_count(199))
        self.assertEqual(forked_with_nest(200, tuple(range(0, 200, 2))), forked_count(100) * forked_count(101))
        for size in (7, 100, 199, 200):
            self.assertEqual(chance(size, (1, 3)), (1, 2 * size - 3))
            told = Fraction(choose(size, 2), 2 * size - 3)
            self.assertEqual(mean_pairs(size), (told.numerator, told.denominator))
            # In the mean a forked tree has size - 1 nests.
            nests = sum(choose(size, many) * Fraction(*chance(size, tuple(range(many)))) for many in range(2, size + 1))
            self.assertEqual(nests, size - 1)


def slow_place(tree):
    """The number of a forked tree, as L4 tells it."""
    size, nests = tree
    if size < 3:
        return 0
    last = size - 1
    cut = {tuple(leaf for leaf in nest if leaf != last) for nest in nests}
    smaller = (last, tuple(sorted((nest for nest in cut if len(nest) > 1), key=rank)))
    places = [(leaf,) for leaf in range(last)] + list(smaller[1])
    around = min((nest for nest in nests if last in nest), key=len)
    beside = tuple(leaf for leaf in around if leaf != last)
    return (2 * size - 3) * slow_place(smaller) + places.index(beside)


class Places(unittest.TestCase):
    def test_all_forked_trees(self):
        for size in range(1, 7):
            numbers = range(len(FORKED[size]))
            self.assertEqual(sorted(forked_place(tree) for tree in FORKED[size]), list(numbers))
            for tree in FORKED[size]:
                self.assertEqual(forked_place(tree), slow_place(tree))
                self.assertEqual(nth_forked(size, forked_place(tree)), tree)

    def test_nine_leaves(self):
        for number in [0, 1, 2027024, *(MIXED.randrange(2027025) for _ in range(200))]:
            tree = nth_forked(9, number)
            self.assertIsNone(tree_error(tree))
            self.assertEqual((tree[0], len(tree[1])), (9, 8))
            self.assertEqual(forked_place(tree), number)
            self.assertEqual(slow_place(tree), number)
        self.assertEqual(forked_place(nth_forked(9, 2027024)), 2027024)

    def test_too_far(self):
        for size in range(1, 10):
            for number in (forked_count(size), forked_count(size) + 1, 10 ** 399):
                with self.assertRaises(TooFar) as caught:
                    nth_forked(size, number)
                self.assertEqual(caught.exception.count, forked_count(size))

    def test_not_forked(self):
        for size in range(1, 6):
            for tree in TREES[size]:
                wide = wide_nests(tree)
                if wide:
                    with self.assertRaises(NotForked) as caught:
                        forked_place(tree)
                    self.assertEqual(caught.exception.nest, wide[0])
        with self.assertRaises(NotForked) as caught:
            forked_place(tree_of(8, ((0, 1, 2), (3, 4, 5))))
        self.assertEqual(caught.exception.nest, (0, 1, 2))


class Shapes(unittest.TestCase):
    def test_all_trees(self):
        for size in range(1, 7):
            shapes = {}
            for tree in TREES[size]:
                shapes.setdefault(shape(tree), []).append(tree)
            self.assertEqual(shape_count(size), len(shapes))
            self.assertEqual(forked_shape_count(size), len({shape(tree) for tree in FORKED[size]}))
            for row in shapes.values():
                for tree in row[:20]:
                    self.assertEqual(namings(tree), len(row))
            self.assertEqual(sum(namings(row[0]) for row in shapes.values()), tree_count(size))

    def test_to_the_last_size(self):
        counts, forked = shape_counts(200), forked_shape_counts(200)
        self.assertEqual(counts[1:11], [1, 1, 2, 5, 12, 33, 90, 261, 766, 2312])
        self.assertEqual(forked[1:11], [1, 1, 1, 2, 3, 6, 11, 23, 46, 98])
        for size in [*range(1, 60), 99, 100, 199, 200]:
            self.assertEqual(shape_count(size), counts[size])
            self.assertEqual(forked_shape_count(size), forked[size])

    def test_namings_of_nine_leaves(self):
        self.assertEqual([namings(bush(9)), namings(comb(9))], [1, factorial(9) // 2])
        self.assertEqual(namings(tree_of(9, ((0, 1, 2), (3, 4, 5), (6, 7, 8)))), 280)
        self.assertEqual(namings(tree_of(9, ((0, 1), (2, 3), (0, 1, 2, 3), (4, 5), (6, 7), (4, 5, 6, 7)))), factorial(9) // 128)
        self.assertEqual(namings(tree_of(9, ((0, 1), (0, 1, 2), (3, 4), (5, 6)))), factorial(9) // 32)


class Lines(unittest.TestCase):
    def test_all_trees(self):
        for size in range(1, 7):
            for line in (tuple(range(size)), tuple(MIXED.sample(range(size), size))):
                self.assertEqual(kept_by_line(size), sum(keeps_line(tree, line) for tree in TREES[size]))
                self.assertEqual(forked_kept_by_line(size), sum(keeps_line(tree, line) for tree in FORKED[size]))

    def test_to_the_last_size(self):
        few, many, forked = 1, 1, 1
        for size in range(3, 201):
            few, many = many, ((6 * size - 9) * many - (size - 3) * few) // size
            forked = forked * (4 * size - 6) // size
            if size < 60 or size in (99, 100, 199, 200):
                self.assertEqual(kept_by_line(size), many)
                self.assertEqual(forked_kept_by_line(size), forked)

    def test_sums_of_line_counts(self):
        for size in range(1, 7):
            self.assertEqual(sum(map(line_count, TREES[size])), kept_by_line(size) * factorial(size))
            self.assertEqual(sum(map(line_count, FORKED[size])), forked_kept_by_line(size) * factorial(size))


class Ends(unittest.TestCase):
    def test_one_and_two_leaves(self):
        for function in (tree_count, forked_count, shape_count, forked_shape_count, kept_by_line, forked_kept_by_line):
            self.assertEqual([function(1), function(2)], [1, 1])
        self.assertEqual([mean_pairs(1), mean_pairs(2), mean_pairs(3)], [(0, 1), (1, 1), (1, 1)])
        self.assertEqual([with_nest(2, (0, 1)), forked_with_nest(2, (0, 1)), chance(2, (0, 1))], [1, 1, (1, 1)])
        self.assertEqual([nth_forked(1, 0), nth_forked(2, 0)], [(1, ()), (2, ((0, 1),))])
        self.assertEqual([forked_place((1, ())), forked_place(bush(2)), namings((1, ())), namings(bush(2))], [0, 0, 1, 1])


if __name__ == "__main__":
    unittest.main()
