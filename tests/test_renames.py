"""M5: trees with new names of their leaves."""

import random
import unittest
from itertools import permutations, product

from forktold.errors import BadMap, TooMany, Unfit
from forktold.renames import normal, renamed, renamings, same_shape
from forktold.texts import tree_text
from forktold.trees import bush, comb, tree_of
from tests.reference import ODD, all_trees, changed, mixed_tree, shape, slow_renamed

MIXED = random.Random(71)
FOUR = all_trees(4)
SMALL = [tree for size in (1, 2, 3) for tree in all_trees(size)] + FOUR
FIVE = all_trees(5)


class Renamed(unittest.TestCase):
    def test_all_maps(self):
        for tree in SMALL + MIXED.sample(FIVE, 30):
            for naming in permutations(range(tree[0])):
                self.assertEqual(renamed(tree, naming), slow_renamed(tree, naming))
        for _ in range(20):
            tree, naming = mixed_tree(9, False, MIXED), tuple(MIXED.sample(range(9), 9))
            self.assertEqual(renamed(tree, naming), slow_renamed(tree, naming))

    def test_bad_maps(self):
        for tree in ((1, ()), bush(2), bush(3), comb(4)):
            maps = list(permutations(range(tree[0])))
            for value in [*ODD, *(other for naming in maps for other in changed(naming))]:
                if type(value) is tuple and all(type(item) is int for item in value) and value in maps:
                    self.assertEqual(renamed(tree, value), slow_renamed(tree, value))
                else:
                    with self.assertRaises(BadMap):
                        renamed(tree, value)


class Renamings(unittest.TestCase):
    def test_all_maps(self):
        rows = list(product(FOUR, repeat=2)) + [(tree, tree) for tree in SMALL]
        rows += [pair for size in (1, 2, 3) for pair in product(all_trees(size), repeat=2)]
        for tree in MIXED.sample(FIVE, 20):
            rows += [(tree, slow_renamed(tree, tuple(MIXED.sample(range(5), 5)))), (tree, MIXED.choice(FIVE)), (tree, tree)]
        for tree, other in rows:
            told = [naming for naming in permutations(range(tree[0])) if slow_renamed(tree, naming) == other]
            self.assertEqual(renamings(tree, other), tuple(told))
            self.assertIs(same_shape(tree, other), bool(told))

    def test_nine_leaves(self):
        for _ in range(10):
            tree, naming = mixed_tree(9, False, MIXED), tuple(MIXED.sample(range(9), 9))
            other = slow_renamed(tree, naming)
            self.assertIs(same_shape(tree, other), True)
            try:
                found = renamings(tree, other)
            except TooMany:
                continue
            self.assertIn(naming, found)
            self.assertEqual(list(found), sorted(set(found)))
            for row in found[:50]:
                self.assertEqual(slow_renamed(tree, row), other)

    def test_too_many(self):
        self.assertEqual(renamings(bush(7), bush(7)), tuple(permutations(range(7))))
        seven = tree_of(8, (tuple(range(1, 8)),))
        self.assertEqual(len(renamings(seven, seven)), 5040)
        for tree in (bush(8), bush(9), tree_of(9, (tuple(range(7)),)), tree_of(9, ((0, 1, 2, 3, 4, 5, 6, 7),))):
            with self.assertRaises(TooMany) as caught:
                renamings(tree, tree)
            self.assertEqual(caught.exception.limit, 5040)
        # There are none here, so there are not too many.
        self.assertEqual(renamings(bush(8), tree_of(8, ((0, 1),))), ())
        self.assertEqual(renamings(tree_of(9, ((0, 1),)), bush(9)), ())

    def test_unlike_sizes(self):
        for tree, other in ((bush(2), bush(3)), ((1, ()), bush(2)), (bush(9), bush(8))):
            with self.assertRaises(Unfit):
                renamings(tree, other)
            self.assertIs(same_shape(tree, other), False)


class Normal(unittest.TestCase):
    def test_first_text_of_the_shape(self):
        for size in range(1, 7):
            first = {}
            trees = all_trees(size)
            for tree in trees:
                told = shape(tree)
                first[told] = min(first.get(told, tree_text(tree)), tree_text(tree))
            for tree in trees:
                self.assertEqual(tree_text(normal(tree)), first[shape(tree)])

    def test_all_maps_of_seven_leaves(self):
        for _ in range(4):
            tree = mixed_tree(7, False, MIXED)
            texts = {tree_text(slow_renamed(tree, naming)) for naming in permutations(range(7))}
            self.assertEqual(tree_text(normal(tree)), min(texts))

    def test_same_shape_exactly_if_equal(self):
        for tree, other in product(SMALL, repeat=2):
            self.assertEqual(same_shape(tree, other), normal(tree) == normal(other))
            self.assertEqual(same_shape(tree, other), shape(tree) == shape(other))
        for _ in range(100):
            tree, other = (mixed_tree(9, MIXED.random() < 0.5, MIXED) for _ in range(2))
            self.assertEqual(same_shape(tree, other), normal(tree) == normal(other))
            self.assertEqual(same_shape(tree, other), shape(tree) == shape(other))
            again = slow_renamed(tree, tuple(MIXED.sample(range(9), 9)))
            self.assertEqual(normal(again), normal(tree))
            self.assertTrue(same_shape(again, normal(tree)))

    def test_ends(self):
        self.assertEqual([normal((1, ())), normal(bush(2)), normal(bush(9)), normal(comb(9))],
                         [(1, ()), bush(2), bush(9), comb(9)])


if __name__ == "__main__":
    unittest.main()
