"""E4 and E5, and A2 (c): roots and knots of webs."""

import unittest

from forktold.errors import TooMany
from forktold.halvings import web_error
from forktold.roots import all_rooted, knots, rooted, unrooted, web_of_tree
from forktold.trees import bush, comb, tree_error
from tests.reference import all_trees, all_webs, rank, rest_of, slow_unrooted

WEBS = [web for size in range(1, 7) for web in all_webs(size)]
WIDE = (9, ((1, 2), (7, 8), (1, 2, 3), (1, 2, 3, 4), (1, 2, 3, 4, 5), (1, 2, 3, 4, 5, 6)))


def slow_rooted(web, leaf):
    """The tree by the side of each halving that does not have the leaf."""
    size, halvings = web
    names = {other: name for name, other in enumerate(rest_of(size, (leaf,)))}
    away = {rest_of(size, lot) if leaf in lot else lot for lot in halvings} | {tuple(names)}
    nests = (tuple(names[other] for other in lot) for lot in away if len(lot) > 1)
    return size - 1, tuple(sorted(nests, key=rank))


def partings(leaves):
    """All ways in which leaves fall into lots."""
    if not leaves:
        yield []
        return
    for rows in partings(leaves[:-1]):
        yield [*rows, leaves[-1:]]
        for at, row in enumerate(rows):
            yield [*rows[:at], row + leaves[-1:], *rows[at + 1:]]


def slow_knots(web):
    """The knots by all ways in which the leaves fall into three lots or more."""
    size, halvings = web
    sides = {(leaf,) for leaf in range(size)} | {*halvings} | {rest_of(size, lot) for lot in halvings}
    found = []
    for lots in partings(tuple(range(size))):
        within = all(
            any(set(side) <= set(lot) for lot in lots for side in (halving, rest_of(size, halving)))
            for halving in halvings
        )
        if len(lots) > 2 and within and set(lots) <= sides:
            found.append(tuple(sorted(lots)))
    order = [(0,), *(rest_of(size, halving) for halving in halvings)]
    return tuple(sorted(found, key=lambda knot: order.index(knot[0])))


class Rooted(unittest.TestCase):
    def test_rooted(self):
        for web in WEBS + [WIDE, (9, ())]:
            for leaf in range(web[0] if web[0] > 1 else 0):
                tree = rooted(web, leaf)
                self.assertIs(tree_error(tree), None)
                self.assertEqual(tree, slow_rooted(web, leaf))

    def test_rooted_of_small_sizes(self):
        self.assertEqual([rooted((2, ()), leaf) for leaf in (0, 1)], [(1, ())] * 2)
        self.assertEqual([rooted((3, ()), leaf) for leaf in (0, 1, 2)], [(2, ((0, 1),))] * 3)
        self.assertEqual(rooted((4, ((2, 3),)), 3), (3, ((0, 1), (0, 1, 2))))

    def test_web_of_tree(self):
        for size in range(1, 6):
            for tree in all_trees(size):
                web = web_of_tree(tree)
                self.assertIs(web_error(web), None)
                nests = [tuple(leaf + 1 for leaf in nest) for nest in tree[1] if len(nest) < size]
                self.assertEqual(web, (size + 1, tuple(nests)))

    def test_there_and_back(self):
        for size in range(1, 7):
            trees = all_trees(size)
            self.assertEqual(sorted(web_of_tree(tree) for tree in trees), sorted(all_webs(size + 1)))
            self.assertEqual([rooted(web_of_tree(tree), 0) for tree in trees], trees)
        for web in WEBS + [WIDE]:
            if web[0] > 1:
                self.assertEqual(web_of_tree(rooted(web, 0)), web)
        for tree in (bush(8), comb(8)):
            self.assertEqual(rooted(web_of_tree(tree), 0), tree)

    def test_too_many_leaves(self):
        for tree in (bush(9), comb(9)):
            with self.assertRaises(TooMany) as caught:
                web_of_tree(tree)
            self.assertEqual(caught.exception.limit, 9)

    def test_unrooted(self):
        for size in range(1, 7):
            for tree in all_trees(size):
                self.assertEqual(unrooted(tree), slow_unrooted(tree))
        self.assertEqual(unrooted(bush(9)), (9, ()))
        self.assertEqual(unrooted(comb(9))[1][0], (7, 8))
        self.assertEqual(len(unrooted(comb(9))[1]), 6)
        self.assertEqual([unrooted(bush(size)) for size in (1, 2, 3)], [(1, ()), (2, ()), (3, ())])


class AllRooted(unittest.TestCase):
    def test_by_all_trees(self):
        for size in range(1, 7):
            having = {web: [] for web in all_webs(size)}
            for tree in all_trees(size):
                having[slow_unrooted(tree)].append(tree)
            for web, trees in having.items():
                trees = sorted(trees, key=lambda tree: (len(tree[1]), tree[1]))
                self.assertEqual(all_rooted(web), tuple(trees))
                if size > 2:
                    self.assertEqual(len(trees), size + 1 + 2 * len(web[1]))

    def test_order_is_not_that_of_lots(self):
        rows = [tree[1] for tree in all_rooted((5, ((2, 3),)))]
        self.assertEqual(rows[:2], [((0, 1, 4), (0, 1, 2, 3, 4)), ((2, 3), (0, 1, 2, 3, 4))])
        self.assertEqual([len(nests) for nests in rows], [2, 2] + [3] * 6)
        self.assertEqual(rows[2:], sorted(rows[2:]))
        self.assertEqual([nests[0] for nests in rows[2:]], [(0, 1, 4)] * 2 + [(2, 3)] * 4)

    def test_of_nine_leaves(self):
        for web in ((9, ()), WIDE):
            trees = all_rooted(web)
            self.assertEqual(len(trees), 10 + 2 * len(web[1]))
            self.assertEqual(len(set(trees)), len(trees))
            for tree in trees:
                self.assertIs(tree_error(tree), None)
                self.assertEqual(unrooted(tree), web)


class Knots(unittest.TestCase):
    def test_by_all_partings(self):
        for web in WEBS:
            expected = slow_knots(web)
            self.assertEqual(knots(web), expected)
            self.assertEqual(len(expected), len(web[1]) + 1 if web[0] > 2 else 0)

    def test_small_sizes(self):
        self.assertEqual([knots((size, ())) for size in (1, 2, 3)], [(), (), (((0,), (1,), (2,)),)])

    def test_not_forked_and_of_nine_leaves(self):
        self.assertEqual(knots((9, ())), (tuple((leaf,) for leaf in range(9)),))
        self.assertEqual(knots(WIDE)[:3], (
            ((0,), (1, 2, 3, 4, 5, 6), (7, 8)), ((0, 3, 4, 5, 6, 7, 8), (1,), (2,)), ((0, 1, 2, 3, 4, 5, 6), (7,), (8,)),
        ))


if __name__ == "__main__":
    unittest.main()
