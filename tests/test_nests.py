"""B1 to B5: nests, their parts, what is left of a tree, finer trees."""

import unittest

from forktold.errors import NotForked, NotNest, Unfit
from forktold.nests import (
    above, at, common, finer, finer_pair, fork, is_forked, least_leaves, level, need_forked, parts, without,
)
from forktold.trees import bush, comb, tree_error, tree_of
from tests.reference import all_lots, all_trees, rank, slow_crossing, slow_parts

SMALL = [tree for size in (1, 2, 3, 4, 5) for tree in all_trees(size)]


class Parts(unittest.TestCase):
    def test_parts(self):
        for tree in SMALL:
            for nest in tree[1]:
                found = parts(tree, nest)
                self.assertEqual(found, tuple(slow_parts(tree, nest)))
                self.assertGreaterEqual(len(found), 2)
                self.assertEqual(sorted(leaf for part in found for leaf in part), list(nest))

    def test_no_nest(self):
        for tree in all_trees(1) + all_trees(4):
            for lot in all_lots(tree[0]):
                if lot not in tree[1]:
                    with self.assertRaises(NotNest) as caught:
                        parts(tree, lot)
                    self.assertEqual(caught.exception.lot, lot)

    def test_order_is_that_of_least_leaves(self):
        tree = tree_of(9, ((0, 7, 8), (1, 6), (2, 3, 4, 5)))
        self.assertEqual(parts(tree, tuple(range(9))), ((0, 7, 8), (1, 6), (2, 3, 4, 5)))
        self.assertEqual(parts(bush(9), tuple(range(9))), tuple((leaf,) for leaf in range(9)))

    def test_fork_and_above(self):
        for tree in SMALL:
            places = [*tree[1], *((leaf,) for leaf in range(tree[0]))]
            for lot in all_lots(tree[0], 1):
                around = sorted((place for place in places if set(lot) <= set(place)), key=rank)
                self.assertEqual(fork(tree, lot), around[0])
                self.assertEqual(above(tree, lot), tuple(place for place in around if place != lot))
        self.assertEqual(fork((1, ()), (0,)), (0,))
        self.assertEqual(above((1, ()), (0,)), ())
        self.assertEqual(len(above(comb(9), (0,))), 8)

    def test_is_forked(self):
        for tree in SMALL:
            forked = all(len(slow_parts(tree, nest)) == 2 for nest in tree[1])
            self.assertIs(is_forked(tree), forked)
        self.assertIs(is_forked(bush(2)), True)
        self.assertIs(is_forked(bush(9)), False)
        self.assertIs(is_forked(comb(9)), True)

    def test_need_forked_names_the_first_nest(self):
        self.assertIs(need_forked(comb(9)), None)
        with self.assertRaises(NotForked) as caught:
            need_forked(tree_of(9, ((0, 1), (0, 1, 2, 3), (4, 5, 6))))
        self.assertEqual(caught.exception.nest, (4, 5, 6))

    def test_level_and_least_leaves(self):
        for tree in SMALL:
            for leaf in range(tree[0]):
                self.assertEqual(level(tree, leaf), sum(leaf in nest for nest in tree[1]))
            rows = least_leaves(tree)
            self.assertEqual(rows, tuple(tuple(min(part) for part in slow_parts(tree, nest)) for nest in tree[1]))
            behind = sorted(leaf for row in rows for leaf in row[1:])
            self.assertEqual(behind, list(range(1, tree[0])))
        self.assertEqual((level((1, ()), 0), least_leaves((1, ()))), (0, ()))
        self.assertEqual([level(comb(9), leaf) for leaf in range(9)], [8, 8, 7, 6, 5, 4, 3, 2, 1])


class Left(unittest.TestCase):
    def test_at(self):
        for tree in SMALL:
            for lot in all_lots(tree[0], 1):
                left = {tuple(lot.index(leaf) for leaf in nest if leaf in lot) for nest in tree[1]}
                nests = sorted((nest for nest in left if len(nest) > 1), key=rank)
                self.assertEqual(at(tree, lot), (len(lot), tuple(nests)))
                self.assertIs(tree_error(at(tree, lot)), None)
            self.assertEqual(at(tree, tuple(range(tree[0]))), tree)

    def test_without(self):
        for tree in SMALL:
            for leaf in range(tree[0] if tree[0] > 1 else 0):
                rest = tuple(other for other in range(tree[0]) if other != leaf)
                self.assertEqual(without(tree, leaf), at(tree, rest))
        self.assertEqual(without(bush(2), 0), (1, ()))
        self.assertEqual(without(comb(9), 8), comb(8))
        self.assertEqual(without(comb(9), 0), comb(8))


class Finer(unittest.TestCase):
    def test_finer(self):
        for tree in all_trees(4):
            for other in all_trees(4):
                self.assertIs(finer(tree, other), set(tree[1]) >= set(other[1]))
        self.assertIs(finer((1, ()), (1, ())), True)

    def test_common_by_all_trees(self):
        trees = all_trees(4)
        for tree in trees:
            for other in trees:
                coarser = [row for row in trees if finer(tree, row) and finer(other, row)]
                finest = [row for row in coarser if all(finer(row, further) for further in coarser)]
                self.assertEqual([common(tree, other)], finest)

    def test_finer_pair_by_all_trees(self):
        trees = all_trees(4)
        for tree in trees:
            for other in trees:
                both = [row for row in trees if finer(row, tree) and finer(row, other)]
                pair = finer_pair(tree, other)
                self.assertEqual(pair is None, bool(both))
                if pair is None:
                    joint = tree_of(4, tree[1] + other[1])
                    self.assertIn(joint, both)
                    self.assertTrue(all(finer(row, joint) for row in both))
                else:
                    self.assertEqual(pair, self.first_pair(tree, other))

    def first_pair(self, tree, other):
        return min(
            (place, behind) for place, nest in enumerate(tree[1]) for behind, further in enumerate(other[1])
            if slow_crossing(nest, further)
        )

    def test_finer_pair_of_five_leaves(self):
        tree, other = tree_of(5, ((3, 4), (0, 1, 2))), tree_of(5, ((0, 1), (2, 3)))
        self.assertEqual(finer_pair(tree, other), (0, 1))
        self.assertEqual(finer_pair(other, tree), (1, 0))
        self.assertIs(finer_pair(comb(9), bush(9)), None)

    def test_unlike_sizes(self):
        for function in (finer, finer_pair, common):
            for tree, other in ((bush(3), bush(4)), (comb(9), (1, ())), ((1, ()), bush(2))):
                with self.assertRaises(Unfit) as caught:
                    function(tree, other)
                self.assertEqual(vars(caught.exception), {})


if __name__ == "__main__":
    unittest.main()
