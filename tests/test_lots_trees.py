"""A4 to A7, and A2 (a): lots, their order, trees."""

import copy
import unittest

from forktold.errors import Cross, TooMany
from forktold.lots import crossing, in_order, is_lot
from forktold.nests import is_forked, parts
from forktold.trees import bush, comb, tree_error, tree_of, under
from tests.reference import (
    ODD, all_lots, all_trees, changed, rank, slow_crossing, slow_is_lot, slow_tree_error, subsets,
)


class Lots(unittest.TestCase):
    def test_is_lot(self):
        for size in (1, 2, 4, 9):
            for lot in all_lots(size):
                self.assertIs(is_lot(size, lot), True)
            self.assertIs(is_lot(size, (size,)), False)
            self.assertIs(is_lot(size, tuple(range(size + 1))), False)

    def test_is_lot_of_any_value(self):
        for value in (*ODD, *changed((0, 1, 3)), *changed((0,)), *changed((1, 0))):
            for size in (1, 2, 4):
                self.assertIs(is_lot(size, value), slow_is_lot(size, value), (size, value))
        for value in ((1, 0), (0, 0), (True,), (False,), [0], (-1, 0), ((0,),), "0", {0: 0}, (0, None)):
            self.assertIs(is_lot(4, value), False)

    def test_crossing(self):
        for lot in all_lots(4):
            for other in all_lots(4):
                self.assertIs(crossing(lot, other), slow_crossing(lot, other), (lot, other))
        self.assertIs(crossing((), ()), False)
        self.assertIs(crossing((0, 8), (7, 8)), True)

    def test_in_order(self):
        lots = all_lots(4)
        self.assertEqual(in_order(tuple(lots[::-1] + lots)), tuple(sorted(lots, key=rank)))
        self.assertEqual(in_order(((0, 1, 2), (2, 3), (3,), (), (0, 1), (3,))),
                         ((), (3,), (0, 1), (2, 3), (0, 1, 2)))
        self.assertEqual(in_order(()), ())


class TreeError(unittest.TestCase):
    def test_trees(self):
        for size in (1, 2, 3, 4, 5):
            for tree in all_trees(size):
                self.assertIs(tree_error(tree), None)
        self.assertIs(tree_error(bush(9)), None)
        self.assertIs(tree_error(comb(9)), None)

    def test_just_these_are_trees(self):
        trees = set(all_trees(4))
        for lots in subsets(all_lots(4, 2)):
            self.assertEqual(tree_error((4, lots)) is None, (4, lots) in trees, lots)

    def test_each_error(self):
        rows = [
            (None, "size"), ((3,), "size"), ((0, ()), "size"), ((10, ()), "size"), ((True, ()), "size"),
            ([1, ()], "size"), ((1, (), ()), "size"), (("1", ()), "size"),
            ((1, []), "nests"), ((3, None), "nests"), ((3, "012"), "nests"), ((3, {}), "nests"),
            ((3, ((0, 1), (2,), (0, 1, 2))), 1), ((3, ((),)), 0), ((3, ((0, 1), (0, True))), 1),
            ((3, ((0, 3), (0, 1, 2))), 0), ((3, ([0, 1], (0, 1, 2))), 0), ((1, ((0,),)), 0),
            ((3, ((0, 1, 2), (0, 1), (1,))), 2), ((3, ((1, 0), (0, 1, 2))), 0),
            ((3, ((0, 1, 2), (0, 1))), "order"), ((3, ((0, 1), (0, 1))), "order"), ((4, ((2, 3), (0, 1))), "order"),
            ((4, ((1, 2), (0, 1))), "order"),
            ((4, ((0, 1), (1, 2), (1, 3))), (0, 1)), ((4, ((0, 1), (2, 3), (1, 2, 3))), (0, 2)),
            ((5, ((0, 1), (2, 3), (3, 4))), (1, 2)),
            ((3, ((0, 1),)), "all"), ((2, ()), "all"), ((9, ((0, 1), (0, 1, 2))), "all"), ((1, ()), None),
        ]
        for value, error in rows:
            self.assertEqual(tree_error(value), error, value)
            self.assertEqual(type(tree_error(value)), type(error), value)

    def test_any_value(self):
        rows = list(ODD)
        for size in (1, 2, 3, 4):
            for tree in all_trees(size):
                rows.extend(changed(tree))
        rows.extend(changed((4, ((0, 1), (1, 2), (2, 3)))))
        for value in rows:
            before = copy.deepcopy(value)
            self.assertEqual(repr(tree_error(value)), repr(slow_tree_error(value)), value)
            self.assertEqual(value, before)


class Making(unittest.TestCase):
    def test_tree_of_any_lots(self):
        trees = all_trees(4)
        for lots in subsets(all_lots(4, 2)):
            having = [tree for tree in trees if set(lots) <= set(tree[1])]
            if having:
                self.assertIn(tree_of(4, lots[::-1] + lots), trees)
                self.assertEqual(set(tree_of(4, lots)[1]), {*lots, (0, 1, 2, 3)})
            else:
                self.check_cross(4, lots)
                self.check_cross(4, lots[::-1] + lots)

    def check_cross(self, size, lots):
        pairs = [(at, behind) for at in range(len(lots)) for behind in range(at) if slow_crossing(lots[at], lots[behind])]
        with self.assertRaises(Cross) as caught:
            tree_of(size, lots)
        self.assertEqual(caught.exception.pair, min((behind, at) for at, behind in pairs))

    def test_tree_of(self):
        self.assertEqual(tree_of(1, ()), (1, ()))
        self.assertEqual(tree_of(1, ((), (0,), (0,))), (1, ()))
        self.assertEqual(tree_of(2, ()), (2, ((0, 1),)))
        self.assertEqual(tree_of(4, ((0, 1, 2, 3), (), (3,), (1, 2), (1, 2))), (4, ((1, 2), (0, 1, 2, 3))))
        self.check_cross(9, ((0, 1), (7, 8), (7, 8), (), (0, 1), (6, 7), (1, 2), (6, 7)))

    def test_many_lots(self):
        self.assertEqual(tree_of(9, ((0, 1), (2,)) * 400), tree_of(9, ((0, 1),)))
        self.check_cross(9, ((0, 1),) * 599 + ((1, 2),))

    def test_bush_and_comb(self):
        for size in range(1, 10):
            self.assertEqual(bush(size), (size, (tuple(range(size)),) if size > 1 else ()))
            self.assertEqual(comb(size), (size, tuple(tuple(range(many)) for many in range(2, size + 1))))

    def test_under(self):
        for first in all_trees(3):
            for second in all_trees(2) + all_trees(1):
                tree = under((first, second))
                size = 3 + second[0]
                self.assertIs(tree_error(tree), None)
                self.assertEqual(parts(tree, tuple(range(size))), ((0, 1, 2), tuple(range(3, size))))
                inner = [tuple(leaf + 3 for leaf in nest) for nest in second[1]]
                self.assertEqual(set(tree[1]), {*first[1], *inner, tuple(range(size))})

    def test_under_the_limit(self):
        self.assertEqual(under((bush(1),) * 9), bush(9))
        for trees in ((bush(1),) * 10, (bush(9), bush(1)), (comb(5), comb(5))):
            with self.assertRaises(TooMany) as caught:
                under(trees)
            self.assertEqual(caught.exception.limit, 9)
        self.assertEqual(under((bush(4), bush(5)))[1], ((0, 1, 2, 3), (4, 5, 6, 7, 8), (0, 1, 2, 3, 4, 5, 6, 7, 8)))

    def test_as_many_nests_as_leaves_less_one_if_forked(self):
        for size in (1, 2, 3, 4, 5):
            for tree in all_trees(size):
                self.assertLessEqual(len(tree[1]), size - 1)
                self.assertEqual(len(tree[1]) == size - 1, is_forked(tree))


if __name__ == "__main__":
    unittest.main()
