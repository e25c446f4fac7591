"""G1 to G6, and A2 (d): several trees of one size."""

import copy
import random
import unittest
from itertools import combinations

from forktold.errors import Cross, TooMany, Unfit
from forktold.nests import finer
from forktold.several import (
    at_least, by_support, crossing_pair, differing, differs, in_all, in_most, is_middle, least_spread, middle_count,
    middles, not_against, spread, support, together,
)
from forktold.texts import parse_tree
from forktold.trees import bush, comb, tree_error
from tests.reference import (
    ODD, all_lots, all_trees, changed, first_crossing, nests_of, rank, slow_crossing, slow_differs, slow_tree_error,
    subsets,
)

FOUR = all_trees(4)
FIVE = all_trees(5)
MIXED = random.Random(7)


def some_trees(trees, many):
    return tuple(MIXED.choices(trees, k=many))


# All pairs of trees of four leaves, and some rows of more trees or leaves.
ROWS = [(tree, other) for tree in FOUR for other in FOUR] + [(tree,) for size in (1, 2, 3, 4) for tree in all_trees(size)]
ROWS += [some_trees(FOUR, many) for many in range(3, 13) for _ in range(20)]
ROWS += [some_trees(FIVE, many) for many in range(1, 13) for _ in range(12)]
ROWS += [some_trees(some_trees(FIVE, 3), many) for many in (4, 6, 8, 12) for _ in range(12)]
ROWS += [((1, ()),) * 12, (bush(2),) * 5, (comb(9),) * 12, (comb(9), bush(9)) * 6]

# Two trees with just as many middle trees as may be told, and with one more.
JUST = (parse_tree("((0 (2 4)) ((1 3) ((5 8) (6 7))))"), parse_tree("(((0 2 (3 6) 4 5 8) 1) 7)"))
MORE = (parse_tree("((((0 4) 5) 3) ((1 (6 7)) (2 8)))"), parse_tree("((((0 1) (2 3) 4 7) 8) (5 6))"))
MANY = (parse_tree("(((0 4) (5 8)) (1 ((2 (3 7)) 6)))"), parse_tree("(((0 8) 5) ((((1 3) (2 7)) 4) 6))"))


def slow_support(trees, lot):
    return sum(lot in tree[1] for tree in trees)


def made(trees, nests):
    return trees[0][0], tuple(sorted(nests, key=rank))


def slow_middles(trees):
    """The middle trees by all sets of the nests that just half of the trees have."""
    nests = nests_of(trees)
    most = [nest for nest in nests if 2 * slow_support(trees, nest) > len(trees)]
    half = [nest for nest in nests if 2 * slow_support(trees, nest) == len(trees)]
    rows = [most + list(some) for some in subsets(half) if first_crossing(some) is None]
    return sorted(made(trees, row) for row in rows)


class Supported(unittest.TestCase):
    def test_support(self):
        for trees in ROWS:
            for lot in all_lots(min(trees[0][0], 5)):
                self.assertEqual(support(trees, lot), slow_support(trees, lot))

    def test_support_of_tips_and_of_no_leaves(self):
        trees = (comb(9),) * 12
        self.assertEqual([support(trees, lot) for lot in ((), (0,), (8,), (0, 1), tuple(range(9)))], [0, 0, 0, 12, 12])
        self.assertEqual([support(((1, ()),), lot) for lot in ((), (0,))], [0, 0])

    def test_in_all_and_in_most(self):
        for trees in ROWS:
            nests = nests_of(trees)
            count = {nest: slow_support(trees, nest) for nest in nests}
            self.assertEqual(in_all(trees), made(trees, [nest for nest in nests if count[nest] == len(trees)]))
            self.assertEqual(in_most(trees), made(trees, [nest for nest in nests if 2 * count[nest] > len(trees)]))

    def test_just_half_is_not_most(self):
        tree, other = comb(3), (3, ((1, 2), (0, 1, 2)))
        self.assertEqual(in_most((tree, other)), bush(3))
        self.assertEqual(in_most((tree, bush(3), tree, bush(3))), bush(3))
        self.assertEqual(in_most((tree, other, tree)), tree)

    def test_not_against(self):
        for trees in ROWS:
            nests = nests_of(trees)
            left = [nest for nest in nests if not any(slow_crossing(nest, other) for other in nests)]
            self.assertEqual(not_against(trees), made(trees, left))

    def test_which_is_finer(self):
        for trees in ROWS:
            for tree in (*trees, in_most(trees), not_against(trees)):
                self.assertIs(finer(tree, in_all(trees)), True)
            self.assertIs(finer(by_support(trees), in_most(trees)), True)

    def test_neither_of_most_and_not_against_need_be_finer(self):
        most = (comb(4), comb(4), (4, ((2, 3), (0, 1, 2, 3))))
        against = (bush(4), comb(4), bush(4))
        self.assertEqual((in_most(most), not_against(most)), (comb(4), (4, ((0, 1), (0, 1, 2, 3)))))
        self.assertEqual((in_most(against), not_against(against)), (bush(4), comb(4)))

    def test_one_tree_alone_or_more_than_once(self):
        for tree in (*FOUR, (1, ()), bush(9), comb(9)):
            for many in (1, 2, 12):
                trees = (tree,) * many
                for function in (in_all, in_most, not_against, by_support, together):
                    self.assertEqual(function(trees), tree)
                self.assertEqual((at_least(trees, 1), at_least(trees, many)), (tree, tree))
                self.assertIs(crossing_pair(trees), None)
                self.assertEqual((least_spread(trees), middles(trees), middle_count(trees)), (0, (tree,), 1))

    def test_at_least(self):
        for trees in ROWS:
            for many in range(1, len(trees) + 1):
                nests = [nest for nest in nests_of(trees) if slow_support(trees, nest) >= many]
                self.check_nests(trees, nests, lambda: at_least(trees, many))
                if 2 * many > len(trees):
                    self.assertIs(first_crossing(nests), None)

    def check_nests(self, trees, nests, call):
        pair = first_crossing(nests)
        if pair is None:
            self.assertEqual(call(), made(trees, nests))
        else:
            with self.assertRaises(Cross) as caught:
                call()
            self.assertEqual(caught.exception.pair, pair)

    def test_by_support(self):
        for trees in ROWS:
            taken = []
            for many in range(len(trees), 0, -1):
                for nest in nests_of(trees):
                    if slow_support(trees, nest) == many and not any(slow_crossing(nest, row) for row in taken):
                        taken.append(nest)
            self.assertEqual(by_support(trees), made(trees, taken))

    def test_by_support_takes_the_greater_support_first(self):
        late = (4, ((1, 2), (1, 2, 3), (0, 1, 2, 3)))
        self.assertEqual(by_support((comb(4), late, late)), late)
        self.assertEqual(by_support((late, comb(4))), comb(4))

    def test_together_and_crossing_pair(self):
        for trees in ROWS:
            self.assertEqual(crossing_pair(trees), first_crossing(nests_of(trees)))
            self.check_nests(trees, nests_of(trees), lambda: together(trees))

    def test_together_by_all_trees(self):
        for trees in ROWS[:len(FOUR) ** 2]:
            both = [row for row in FOUR if all(set(tree[1]) <= set(row[1]) for tree in trees)]
            crossed = any(slow_crossing(nest, other) for nest in trees[0][1] for other in trees[1][1])
            self.assertEqual(bool(both), not crossed)
            if both:
                joint = together(trees)
                self.assertIn(joint, both)
                self.assertTrue(all(finer(row, joint) for row in both))

    def test_order_of_pairs(self):
        trees = (parse_tree("(((0 1) 2) (3 4))"), parse_tree("(0 1 (2 3) 4)"), parse_tree("((0 4) 1 2 3)"))
        self.assertEqual(crossing_pair(trees), ((0, 1), (0, 4)))
        self.assertEqual(crossing_pair(trees[:2]), ((2, 3), (3, 4)))
        self.assertEqual(crossing_pair(trees[1::-1]), ((2, 3), (3, 4)))
        self.assertEqual(crossing_pair((bush(5), parse_tree("((0 1 2) 3 4)"), parse_tree("(0 1 (2 3) 4)"))),
                         ((2, 3), (0, 1, 2)))


class Differing(unittest.TestCase):
    def test_differing(self):
        for tree in FOUR:
            for other in FOUR:
                first = tuple(nest for nest in tree[1] if nest not in other[1])
                second = tuple(nest for nest in other[1] if nest not in tree[1])
                self.assertEqual(differing(tree, other), (first, second))
                self.assertEqual(differs(tree, other), len(first) + len(second))
        self.assertEqual((differing((1, ()), (1, ())), differs(comb(9), bush(9))), (((), ()), 7))

    def test_what_holds(self):
        for tree, other, third in [some_trees(FIVE, 3) for _ in range(2000)]:
            self.assertEqual(differs(tree, other), differs(other, tree))
            self.assertEqual(differs(tree, other) == 0, tree == other)
            self.assertLessEqual(differs(tree, other), differs(tree, third) + differs(third, other))

    def test_spread(self):
        for trees in ROWS:
            for tree in (trees[0], trees[-1], in_most(trees), bush(trees[0][0])):
                self.assertEqual(spread(trees, tree), sum(slow_differs(tree, other) for other in trees))


class Middles(unittest.TestCase):
    def check_by_all(self, trees, everyone):
        spreads = {tree: sum(slow_differs(tree, other) for other in trees) for tree in everyone}
        least = min(spreads.values())
        middle = sorted(tree for tree in everyone if spreads[tree] == least)
        self.assertEqual(least_spread(trees), least)
        self.assertEqual(middles(trees), tuple(middle))
        self.assertEqual(middle_count(trees), len(middle))
        self.assertIn(in_most(trees), middle)
        if len(trees) % 2:
            self.assertEqual(middle, [in_most(trees)])
        for tree in everyone:
            self.assertIs(is_middle(trees, tree), tree in middle)

    def test_by_all_trees_of_four_leaves(self):
        for trees in ROWS:
            if trees[0][0] == 4:
                self.check_by_all(trees, FOUR)

    def test_by_all_trees_of_five_leaves(self):
        for trees in ROWS:
            if trees[0][0] == 5:
                self.check_by_all(trees, FIVE)

    def test_small_sizes(self):
        for size in (1, 2, 3):
            for trees in combinations(all_trees(size) * 2, 2):
                self.check_by_all(trees, all_trees(size))

    def test_between_two_trees(self):
        for tree, other in ROWS[:len(FOUR) ** 2]:
            both, either = set(tree[1]) & set(other[1]), set(tree[1]) | set(other[1])
            between = sorted(row for row in FOUR if both <= set(row[1]) <= either)
            self.assertEqual(middles((tree, other)), tuple(between))

    def test_many(self):
        for trees, many in ((JUST, 200), (MORE, 201), (MANY, 1160), (JUST * 6, 200), (MORE * 3, 201)):
            expected = slow_middles(trees)
            self.assertEqual(len(expected), many)
            self.assertEqual(middle_count(trees), many)
            if many > 200:
                with self.assertRaises(TooMany) as caught:
                    middles(trees)
                self.assertEqual(caught.exception.limit, 200)
            else:
                self.assertEqual(middles(trees), tuple(expected))
            for tree in expected[::17]:
                self.assertIs(is_middle(trees, tree), True)
                self.assertEqual(spread(trees, tree), least_spread(trees))

    def test_is_middle_of_any_value(self):
        trees = (FOUR[7], FOUR[20])
        rows = [*ODD, *changed(trees[0]), *changed(in_most(trees)), bush(3), bush(5), comb(9), [4, ()], None, trees]
        for value in rows:
            before = copy.deepcopy(value)
            right = slow_tree_error(value) is None and value[0] == 4
            right = right and spread(trees, value) == least_spread(trees)
            self.assertIs(is_middle(trees, value), right, value)
            self.assertEqual(value, before)
        self.assertIs(is_middle(((1, ()),), (True, ())), False)
        self.assertIs(is_middle((bush(2),), (2, ((False, True),))), False)
        self.assertIs(is_middle((bush(2),), (2, ([0, 1],))), False)
        self.assertIs(is_middle((bush(2),), [2, ((0, 1),)]), False)

    def test_all_are_trees(self):
        for tree in middles(JUST):
            self.assertIs(tree_error(tree), None)


ALL = [
    in_all, in_most, not_against, by_support, crossing_pair, together, least_spread, middle_count, middles,
    lambda trees: support(trees, (0,)), lambda trees: at_least(trees, 1), lambda trees: spread(trees, trees[0]),
    lambda trees: is_middle(trees, trees[0]), lambda trees: is_middle(trees, None),
]


class Errors(unittest.TestCase):
    def check_unfit(self, call):
        with self.assertRaises(Unfit) as caught:
            call()
        self.assertEqual(vars(caught.exception), {})

    def check_too_many(self, call):
        with self.assertRaises(TooMany) as caught:
            call()
        self.assertEqual(caught.exception.limit, 12)

    def test_unlike_sizes(self):
        rows = [(bush(3), bush(4)), (comb(4), comb(4), bush(3)), ((1, ()), bush(2)), (bush(2), (1, ())) * 3]
        for trees in rows:
            for call in ALL:
                self.check_unfit(lambda: call(trees))
            self.check_unfit(lambda: differing(trees[-2], trees[-1]))
            self.check_unfit(lambda: differs(trees[-1], trees[-2]))

    def test_more_trees_than_may_be(self):
        for tree in (comb(4), (1, ()), bush(9)):
            for call in ALL:
                call((tree,) * 12)
                self.check_too_many(lambda: call((tree,) * 13))
                self.check_too_many(lambda: call((tree,) * 30))

    def test_unfit_comes_ahead_of_too_many(self):
        for call in ALL:
            self.check_unfit(lambda: call((bush(4),) * 12 + (bush(3),)))

    def test_too_many_comes_ahead_of_the_rest(self):
        crossed = (comb(4), (4, ((1, 2), (0, 1, 2, 3)))) * 7
        self.check_too_many(lambda: at_least(crossed, 1))
        self.check_too_many(lambda: together(crossed))
        self.check_too_many(lambda: middles(MORE * 7))
        self.check_too_many(lambda: spread(crossed, bush(3)))
        self.check_unfit(lambda: spread(crossed[:12], bush(3)))
        self.check_unfit(lambda: spread((comb(4),), bush(5)))
        self.check_unfit(lambda: spread((comb(4), bush(3)), bush(5)))


if __name__ == "__main__":
    unittest.main()
