"""H1 to H6, and A2 (e): where trees are the same."""

import random
import unittest
from itertools import combinations

from forktold.agree import (
    agree_number, agreed_tree, agreement_table, agreements, clash_threes, distance, fits, fitted_tree, fittings,
    greatest_agreement, hard_threes, is_agreement,
)
from forktold.errors import Clash, NotNest, TooMany, Unfit
from forktold.nests import at
from forktold.several import together
from forktold.trees import bush, comb, tree_error, tree_of
from tests.reference import all_lots, all_trees, first_crossing, mixed_tree, nests_of, rank, slow_at, slow_parts

FOUR = all_trees(4)
FIVE = all_trees(5)
MIXED = random.Random(11)


def some_trees(trees, many):
    return tuple(MIXED.choices(trees, k=many))


ROWS = [(tree, other) for tree in FOUR for other in FOUR] + [(tree,) for size in (1, 2, 3, 4) for tree in all_trees(size)]
ROWS += [some_trees(FOUR, many) for many in range(3, 13) for _ in range(12)]
ROWS += [some_trees(FIVE, many) for many in (1, 2, 2, 2, 3, 4, 12) for _ in range(15)]
ROWS += [((1, ()),) * 12, (bush(2),) * 12, (bush(3), comb(3)), (comb(9),) * 12, (comb(9), bush(9))]
ROWS += [tuple(mixed_tree(9, forked, MIXED) for _ in range(many)) for forked in (True, False) for many in (2, 3)]
PAIRS = [trees for trees in ROWS if len(trees) == 2]


def same_at(trees, lot):
    return len(lot) < 3 or len({slow_at(tree, lot) for tree in trees}) == 1


def fit_at(trees, lot):
    return not lot or first_crossing(nests_of([slow_at(tree, lot) for tree in trees])) is None


def greatest(size, holds):
    """The lots for which something holds that are in no other one for which it does."""
    lots = [lot for lot in all_lots(size) if holds(lot)]
    return tuple(lot for lot in lots if not any(set(lot) < set(other) for other in lots))


def slow_hard(trees, three):
    """Whether two trees have nests with two of three leaves, and not the same two."""
    pairs = {tuple(sorted(set(nest) & set(three))) for tree in trees for nest in tree[1]}
    return len([pair for pair in pairs if len(pair) == 2]) > 1


class Threes(unittest.TestCase):
    def test_clash_threes(self):
        for trees in ROWS:
            threes = combinations(range(trees[0][0]), 3)
            self.assertEqual(clash_threes(trees), tuple(three for three in threes if not same_at(trees, three)))

    def test_hard_threes(self):
        for trees in ROWS:
            threes = combinations(range(trees[0][0]), 3)
            self.assertEqual(hard_threes(trees), tuple(three for three in threes if slow_hard(trees, three)))

    def test_of_forked_trees_all_are_hard(self):
        for trees in ROWS:
            self.assertLessEqual(set(hard_threes(trees)), set(clash_threes(trees)))
            if all(len(tree[1]) == tree[0] - 1 for tree in trees):
                self.assertEqual(hard_threes(trees), clash_threes(trees))

    def test_one_tree_or_small_ones_have_none(self):
        for trees in ((comb(9),), (bush(9),) * 12, ((1, ()),), (bush(2), bush(2)), (comb(3),) * 3):
            self.assertEqual((clash_threes(trees), hard_threes(trees)), ((), ()))

    def test_one_of_many(self):
        trees = (comb(4),) * 11 + (tree_of(4, ((2, 3),)),)
        self.assertEqual(clash_threes(trees), tuple(combinations(range(4), 3)))
        self.assertEqual(hard_threes(trees), ((0, 2, 3), (1, 2, 3)))


class Agreements(unittest.TestCase):
    def test_at_each_lot(self):
        for trees in ROWS:
            for lot in all_lots(trees[0][0])[::1 if trees[0][0] < 9 else 5]:
                right = same_at(trees, lot)
                self.assertIs(is_agreement(trees, lot), right)
                if lot and right:
                    self.assertEqual(agreed_tree(trees, lot), slow_at(trees[0], lot))
                elif lot:
                    with self.assertRaises(Clash) as caught:
                        agreed_tree(trees, lot)
                    inner = [three for three in combinations(lot, 3) if not same_at(trees, three)]
                    self.assertEqual(caught.exception.paper, inner[0])

    def test_small_lots(self):
        for trees in ROWS[:60]:
            self.assertIs(is_agreement(trees, ()), True)
            self.assertEqual(agreed_tree(trees, (3,)), (1, ()))
            self.assertEqual(agreed_tree(trees, (1, 3)), bush(2))

    def test_greatest_lots(self):
        for trees in ROWS:
            lots = greatest(trees[0][0], lambda lot: same_at(trees, lot))
            self.assertEqual(agreements(trees), lots)
            most = [lot for lot in lots if len(lot) == max(map(len, lots))]
            self.assertEqual(greatest_agreement(trees), most[0])

    def test_by_lots_that_meet_each_clash_three(self):
        for trees in ROWS[::9]:
            size, threes = trees[0][0], clash_threes(trees)
            if size < 6:
                meeting = [lot for lot in all_lots(size) if all(set(lot) & set(three) for three in threes)]
                least = [lot for lot in meeting if not any(set(other) < set(lot) for other in meeting)]
                rests = (tuple(leaf for leaf in range(size) if leaf not in lot) for lot in least)
                self.assertEqual(agreements(trees), tuple(sorted(rests, key=rank)))

    def test_all_leaves(self):
        for trees in (((1, ()),), (bush(2), bush(2)), (comb(9),) * 12, (bush(9),)):
            everyone = tuple(range(trees[0][0]))
            self.assertEqual((agreements(trees), greatest_agreement(trees)), ((everyone,), everyone))


class Fittings(unittest.TestCase):
    def test_at_each_lot(self):
        for trees in ROWS:
            for lot in all_lots(trees[0][0], 1)[::1 if trees[0][0] < 9 else 5]:
                right = fit_at(trees, lot)
                self.assertIs(fits(trees, lot), right)
                if right:
                    nests = nests_of([slow_at(tree, lot) for tree in trees])
                    self.assertEqual(fitted_tree(trees, lot), (len(lot), tuple(nests)))
                else:
                    with self.assertRaises(Clash) as caught:
                        fitted_tree(trees, lot)
                    inner = [three for three in combinations(lot, 3) if slow_hard(trees, three)]
                    self.assertEqual(caught.exception.paper, inner[0])

    def test_greatest_lots(self):
        for trees in ROWS:
            self.assertEqual(fittings(trees), greatest(trees[0][0], lambda lot: fit_at(trees, lot)))

    def test_all_leaves(self):
        for trees in (((1, ()),), (comb(9), bush(9)), (tree_of(4, ((0, 1),)), tree_of(4, ((2, 3),)))):
            everyone = tuple(range(trees[0][0]))
            self.assertEqual(fittings(trees), (everyone,))
            self.assertEqual(fitted_tree(trees, everyone), together(trees))
            self.assertIs(tree_error(fitted_tree(trees, everyone)), None)

    def test_small_lots(self):
        for trees in ROWS[:60]:
            for lot in ((0,), (2,), (0, 3)):
                self.assertIs(fits(trees, lot), True)
                self.assertEqual(fitted_tree(trees, lot), bush(len(lot)))


def places(tree):
    """The tips and nests of a tree, in order."""
    return [(leaf,) for leaf in range(tree[0])] + list(tree[1])


def best_pairing(table, rows, others):
    """The greatest sum of the numbers of pairs, no item in two of them."""
    if not rows:
        return 0
    best = best_pairing(table, rows[1:], others)
    for at, other in enumerate(others):
        rest = others[:at] + others[at + 1:]
        best = max(best, table[rows[0], other] + best_pairing(table, rows[1:], rest))
    return best


def slow_table(tree, other):
    """The table by the rule of H5, from the tips upwards."""
    table = {}
    for lot in places(tree):
        for further in places(other):
            mine, theirs = slow_parts(tree, lot), slow_parts(other, further)
            found = [table[part, further] for part in mine] + [table[lot, part] for part in theirs]
            if mine and theirs:
                found.append(best_pairing(table, mine, theirs))
            table[lot, further] = max(found, default=int(lot == further))
    return tuple((lot, further, number) for (lot, further), number in table.items())


class Numbers(unittest.TestCase):
    def test_table(self):
        for tree, other in PAIRS:
            if other != bush(9):
                self.assertEqual(agreement_table(tree, other), slow_table(tree, other))

    def test_number_by_all_lots(self):
        for tree, other in PAIRS:
            if tree[0] < 6:
                table = {(lot, further): number for lot, further, number in agreement_table(tree, other)}
                for lot in places(tree):
                    for further in places(other):
                        shared = set(lot) & set(further)
                        lots = [row for row in all_lots(tree[0]) if set(row) <= shared and same_at((tree, other), row)]
                        self.assertEqual(agree_number(tree, other, lot, further), len(lots[-1]))
                        self.assertEqual(table[lot, further], len(lots[-1]))

    def test_last_number(self):
        for tree, other in PAIRS:
            last = agreement_table(tree, other)[-1]
            self.assertEqual(last[2], len(greatest_agreement((tree, other))))
            self.assertEqual(last[:2], (tuple(range(tree[0])),) * 2)
            self.assertEqual(distance(tree, other), tree[0] - last[2])

    def test_table_of_small_trees_and_of_nine_leaves(self):
        self.assertEqual(agreement_table((1, ()), (1, ())), (((0,), (0,), 1),))
        self.assertEqual(agree_number((1, ()), (1, ()), (0,), (0,)), 1)
        self.assertEqual(agree_number(comb(9), bush(9), tuple(range(8)), tuple(range(9))), 2)
        self.assertEqual(len(agreement_table(comb(9), comb(9))), 17 * 17)
        self.assertEqual(agreement_table(comb(9), comb(9))[-1][2], 9)
        self.assertEqual(agree_number(comb(9), comb(9), (0, 1, 2), (8,)), 0)

    def test_distance(self):
        self.assertEqual((distance((1, ()), (1, ())), distance(comb(9), bush(9)), distance(comb(9), comb(9))), (0, 7, 0))
        for tree, other, third in [some_trees(FIVE, 3) for _ in range(300)]:
            self.assertEqual(distance(tree, other), distance(other, tree))
            self.assertEqual(distance(tree, other) == 0, tree == other)
            self.assertLessEqual(distance(tree, other), distance(tree, third) + distance(third, other))

    def test_no_nests(self):
        tree, other = comb(4), tree_of(4, ((2, 3),))
        rows = [
            ((2, 3), (2, 3), (2, 3)), ((), (2, 3), ()), ((0, 1), (0, 1), (0, 1)), ((0,), (), ()), ((1, 2), (0, 1), (1, 2)),
            ((), (0, 1), ()), ((0, 1, 2, 3), (0, 1, 2), (0, 1, 2)),
        ]
        for lot, further, wrong in rows:
            with self.assertRaises(NotNest) as caught:
                agree_number(tree, other, lot, further)
            self.assertEqual(caught.exception.lot, wrong)
        with self.assertRaises(NotNest) as caught:
            agree_number(tree, other, (1, 3), (0, 1))
        self.assertEqual(caught.exception.lot, (1, 3))


ALL = [
    clash_threes, hard_threes, agreements, greatest_agreement, fittings,
    lambda trees: is_agreement(trees, (0,)), lambda trees: agreed_tree(trees, (0,)), lambda trees: fits(trees, (0,)),
    lambda trees: fitted_tree(trees, (0,)), lambda trees: is_agreement(trees, ()),
]


class Errors(unittest.TestCase):
    def check_unfit(self, call):
        with self.assertRaises(Unfit) as caught:
            call()
        self.assertEqual(vars(caught.exception), {})

    def check_too_many(self, call):
        with self.assertRaises(TooMany) as caught:
            call()
        self.assertEqual(caught.exception.limit, 12)

    def test_unlike_sizes(self):
        for trees in ((bush(3), bush(4)), (comb(4), comb(4), bush(3)), ((1, ()), bush(2)), (bush(2), (1, ())) * 3):
            for call in ALL:
                self.check_unfit(lambda: call(trees))

    def test_unlike_sizes_of_two_trees(self):
        for tree, other in ((bush(3), bush(4)), (bush(9), (1, ())), ((1, ()), bush(2))):
            self.check_unfit(lambda: distance(tree, other))
            self.check_unfit(lambda: agreement_table(tree, other))
            self.check_unfit(lambda: agree_number(tree, other, (0,), (0,)))
            self.check_unfit(lambda: agree_number(tree, other, (), ()))

    def test_more_trees_than_may_be(self):
        for tree in (comb(4), (1, ()), bush(9)):
            for call in ALL:
                call((tree,) * 12)
                self.check_too_many(lambda: call((tree,) * 13))

    def test_unfit_comes_ahead_of_too_many(self):
        for call in ALL:
            self.check_unfit(lambda: call((bush(4),) * 12 + (bush(3),)))

    def test_too_many_comes_ahead_of_clash(self):
        crossed = (comb(4), tree_of(4, ((1, 2),))) * 7
        self.check_too_many(lambda: agreed_tree(crossed, (0, 1, 2)))
        self.check_too_many(lambda: fitted_tree(crossed, (0, 1, 2)))
        with self.assertRaises(Clash) as caught:
            agreed_tree(crossed[:12], (0, 1, 2, 3))
        self.assertEqual(caught.exception.paper, (0, 1, 2))


class WhatHolds(unittest.TestCase):
    def test_trees_are_told_by_each_three_leaves(self):
        for tree, other in PAIRS:
            threes = combinations(range(tree[0]), 3)
            self.assertEqual(tree == other, all(at(tree, three) == at(other, three) for three in threes))


if __name__ == "__main__":
    unittest.main()
