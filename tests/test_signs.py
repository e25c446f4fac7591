"""J1 to J6, and A2 (f): states of leaves, and how few changes tell them."""

import random
import unittest
from itertools import combinations, permutations, product

from forktold.errors import Cross, Unfit
from forktold.signs import (
    apart_ways, apart_ways_holds, changes, choices, fewest_changes, first_signs, fit_clash, fits, four_leaves,
    joint_tree, sign_count, signs, signs_holds,
)
from forktold.trees import bush, comb, tree_of
from tests.reference import ODD, all_trees, changed, first_crossing, mixed_tree, rank, slow_parts, subsets

MIXED = random.Random(21)
SMALL = [tree for size in (1, 2, 3) for tree in all_trees(size)]
FOUR = all_trees(4)
FIVE = all_trees(5)


def markings(size, states):
    return list(product(range(states), repeat=size))


def links(tree):
    return [(nest, part) for nest in tree[1] for part in slow_parts(tree, nest)]


def slow_changes(tree, marking, signing):
    states = dict(zip(tree[1], signing)) | {(leaf,): state for leaf, state in enumerate(marking)}
    return sum(states[nest] != states[part] for nest, part in links(tree))


def slow_best(tree, marking):
    """The least number of changes, and all best signings in order."""
    told = {signing: slow_changes(tree, marking, signing) for signing in product(range(6), repeat=len(tree[1]))}
    least = min(told.values())
    return least, [signing for signing in told if told[signing] == least]


def some_rows():
    """Pairs of a tree and a marking: of few leaves all with three states, of more leaves chosen ones."""
    for tree in SMALL:
        yield from ((tree, marking) for marking in markings(tree[0], 3))
    for tree in FOUR:
        yield from ((tree, marking) for marking in MIXED.sample(markings(4, 4), 12))
        yield tree, (0, 5, 5, 2)
    for tree in MIXED.sample(FIVE, 30):
        yield tree, tuple(MIXED.choices(range(6), k=5))
        yield tree, tuple(MIXED.choices((1, 4), k=5))


class Signings(unittest.TestCase):
    def test_against_all_signings(self):
        for tree, marking in some_rows():
            with self.subTest(tree=tree, marking=marking):
                least, best = slow_best(tree, marking)
                self.assertEqual(fewest_changes(tree, marking), least)
                self.assertEqual(first_signs(tree, marking), best[0])
                self.assertIn(signs(tree, marking), best)
                self.assertEqual(sign_count(tree, marking), len(best))
                self.assertEqual(choices(tree, marking), tuple(tuple(sorted(set(row))) for row in zip(*best)))
                # J2: no state that no leaf has.
                self.assertTrue(all(set(signing) <= set(marking) for signing in best))

    def test_changes(self):
        for tree in SMALL + FOUR[::5]:
            for marking in MIXED.sample(markings(tree[0], 6), 6):
                for signing in MIXED.sample(markings(len(tree[1]), 6), min(6, 6 ** len(tree[1]))):
                    self.assertEqual(changes(tree, marking, signing), slow_changes(tree, marking, signing))

    def test_holds(self):
        for tree, marking in ((comb(3), (0, 1, 2)), (bush(4), (0, 0, 1, 1)), (comb(4), (0, 1, 0, 1)), ((1, ()), (3,))):
            least, best = slow_best(tree, marking)
            for value in product(range(-1, 7), repeat=len(tree[1])):
                self.assertEqual(signs_holds(tree, marking, value), value in best)
            for value in [*ODD, *(other for signing in best for other in changed(signing))]:
                plain = type(value) is tuple and all(type(item) is int for item in value)
                self.assertIs(signs_holds(tree, marking, value), plain and value in best, repr(value))

    def test_true_is_no_state(self):
        self.assertTrue(signs_holds(bush(3), (0, 0, 1), (0,)))
        self.assertFalse(signs_holds(bush(3), (0, 0, 1), (False,)))
        self.assertFalse(signs_holds(bush(3), (0, 0, 1), [0]))

    def test_nine_leaves(self):
        for _ in range(20):
            tree = mixed_tree(9, False, MIXED)
            marking = tuple(MIXED.choices(range(6), k=9))
            signing = first_signs(tree, marking)
            told = choices(tree, marking)
            self.assertEqual(slow_changes(tree, marking, signing), fewest_changes(tree, marking))
            self.assertTrue(signs_holds(tree, marking, signing))
            self.assertTrue(all(state in row for state, row in zip(signing, told)))
            if all(len(row) == 1 for row in told):
                self.assertEqual(sign_count(tree, marking), 1)

    def test_one_leaf(self):
        tree = (1, ())
        self.assertEqual([changes(tree, (5,), ()), fewest_changes(tree, (5,)), signs(tree, (5,))], [0, 0, ()])
        self.assertEqual([first_signs(tree, (5,)), sign_count(tree, (5,)), choices(tree, (5,))], [(), 1, ()])
        self.assertEqual([apart_ways(tree, (1,)), fits(tree, (5,)), fit_clash(tree, (5,))], [(), True, None])
        self.assertTrue(apart_ways_holds(tree, (1,), ()) and signs_holds(tree, (5,), ()))


class Unfitting(unittest.TestCase):
    def test_unlike_numbers_of_states(self):
        calls = (
            lambda tree, marking: changes(tree, marking, (0,) * len(tree[1])), fewest_changes, signs, first_signs,
            lambda tree, marking: signs_holds(tree, marking, None), sign_count, choices, apart_ways,
            lambda tree, marking: apart_ways_holds(tree, marking, None), fits, fit_clash,
        )
        for tree in ((1, ()), bush(2), comb(4), bush(9)):
            for many in (0, tree[0] - 1, tree[0] + 1, 12):
                for call in calls:
                    with self.assertRaises(Unfit):
                        call(tree, (1,) * many)

    def test_signing(self):
        for signing in ((), (0,), (0, 0), (0,) * 4):
            with self.assertRaises(Unfit):
                changes(comb(4), (0, 1, 0, 1), signing)


def slow_way(tree, pair):
    return {link for link in links(tree) if len({*pair} & {*link[1]}) == 1}


def slow_apart(tree, marking, value):
    """Whether a tuple of pairs of leaves is right but for their number."""
    if list(value) != sorted(set(value)) or any((marking[a], marking[b]) != (0, 1) for a, b in value):
        return False
    return not any(slow_way(tree, pair) & slow_way(tree, other) for pair, other in combinations(value, 2))


class Ways(unittest.TestCase):
    def test_as_many_as_changes(self):
        rows = [(tree, marking) for tree in SMALL + FOUR for marking in markings(tree[0], 2)]
        rows += [(tree, tuple(MIXED.choices((0, 1), k=5))) for tree in FIVE for _ in range(3)]
        for _ in range(60):
            size = MIXED.randrange(6, 10)
            rows.append((mixed_tree(size, MIXED.random() < 0.5, MIXED), tuple(MIXED.choices((0, 1), k=size))))
        for tree, marking in rows:
            with self.subTest(tree=tree, marking=marking):
                value = apart_ways(tree, marking)
                self.assertEqual(len(value), fewest_changes(tree, marking))
                self.assertTrue(slow_apart(tree, marking, value))
                self.assertTrue(apart_ways_holds(tree, marking, value))

    def test_never_more_and_holds(self):
        for tree in SMALL + FOUR:
            for marking in markings(tree[0], 2):
                least = fewest_changes(tree, marking)
                pairs = list(permutations(range(tree[0]), 2))
                told = [pair for pair in pairs if (marking[pair[0]], marking[pair[1]]) == (0, 1)]
                for value in subsets(told):
                    apart = slow_apart(tree, marking, value)
                    self.assertEqual(apart_ways_holds(tree, marking, value), apart and len(value) == least)
                    self.assertFalse(apart and len(value) > least)
                for value in [(pair,) for pair in pairs] + list(permutations(told, 2)):
                    right = slow_apart(tree, marking, value) and len(value) == least
                    self.assertEqual(apart_ways_holds(tree, marking, value), right)

    def test_any_value(self):
        tree, marking = comb(4), (0, 1, 1, 0)
        right = [value for value in subsets(list(permutations(range(4), 2))[:12]) if len(value) == 2]
        right = [value for value in right if slow_apart(tree, marking, value)]
        self.assertTrue(right)
        for value in [*ODD, *(other for row in right for other in changed(row)), *((row, row) for row in right)]:
            same = value in right and repr(value) == repr(right[right.index(value)])
            self.assertIs(apart_ways_holds(tree, marking, value), same, repr(value))
        self.assertIs(apart_ways_holds(bush(2), (0, 1), ((0, 1),)), True)
        for value in (((False, 1),), ((0, True),), ([0, 1],), [(0, 1)], ((0, 1, 1),), ((-2, 1),), ((0, -1),), ((0, 2),)):
            self.assertIs(apart_ways_holds(bush(2), (0, 1), value), False)
        self.assertIs(apart_ways_holds(bush(2), (1, 0), ((1, 0),)), True)


def slow_between(tree, nest, marking, state):
    held = {leaf for leaf, own in enumerate(marking) if own == state}
    if sum(bool(held & set(part)) for part in slow_parts(tree, nest)) >= 2:
        return True
    return bool(held & set(nest)) and bool(held - set(nest))


def slow_fit_clash(tree, marking):
    found = [
        (state, other, at) for state, other in combinations(range(6), 2) for at, nest in enumerate(tree[1])
        if slow_between(tree, nest, marking, state) and slow_between(tree, nest, marking, other)
    ]
    if not found:
        return None
    state, other, at = min(found)
    return state, other, tree[1][at]


class Fitting(unittest.TestCase):
    def test_clash(self):
        rows = [(tree, marking) for tree in SMALL + FOUR for marking in markings(tree[0], 3)]
        rows += [(tree, tuple(MIXED.choices(states, k=5))) for tree in FIVE for states in ((5, 2), (0, 1, 3), range(6))]
        for _ in range(60):
            tree = mixed_tree(9, MIXED.random() < 0.5, MIXED)
            rows.append((tree, tuple(MIXED.choices((0, 1, 4), (6, 1, 1), k=9))))
        for tree, marking in rows:
            with self.subTest(tree=tree, marking=marking):
                clash = slow_fit_clash(tree, marking)
                self.assertEqual(fit_clash(tree, marking), clash)
                self.assertIs(fits(tree, marking), clash is None)
                self.assertEqual(fits(tree, marking), fewest_changes(tree, marking) == len(set(marking)) - 1)

    def test_ends(self):
        self.assertIs(fits(bush(9), (0, 1, 2, 3, 4, 5, 5, 5, 5)), True)
        self.assertIs(fits(bush(9), (0, 1, 2, 3, 4, 4, 5, 5, 5)), False)
        self.assertEqual(fit_clash(bush(9), (0, 1, 2, 3, 4, 4, 5, 5, 5)), (4, 5, tuple(range(9))))


def slow_far(marking):
    return tuple(leaf for leaf in range(len(marking)) if marking[leaf] != marking[0])


def in_rank_order(sides):
    return sorted(set(sides), key=rank)


class Joint(unittest.TestCase):
    def check(self, size, rows):
        sides = in_rank_order(slow_far(marking) for marking in rows)
        pair = first_crossing(sides)
        if pair is not None:
            with self.assertRaises(Cross) as caught:
                joint_tree(size, rows)
            self.assertEqual(caught.exception.pair, pair)
            return
        tree = joint_tree(size, rows)
        self.assertEqual(tree, tree_of(size, tuple(sides)))
        self.assertTrue(all(fits(tree, marking) for marking in rows))

    def test_joint_tree(self):
        for size in (1, 2, 3, 4):
            self.check(size, ())
            for many in (1, 2):
                for rows in product(markings(size, 2), repeat=many):
                    self.check(size, rows)
        for many in (2, 3, 3, 4, 5, 9):
            for size in (5, 6, 9):
                for _ in range(12):
                    self.check(size, tuple(MIXED.choices(markings(size, 2), k=many)))
                    tree = mixed_tree(size, True, MIXED)
                    rows = [tuple(int(leaf in nest) for leaf in range(size)) for nest in tree[1]]
                    self.check(size, tuple(MIXED.choices(rows, k=many)))

    def test_two_by_two(self):
        # Markings fit one tree if they fit together two by two.
        for rows in combinations(markings(4, 2)[:8], 3):
            pairs = [four_leaves(*pair) for pair in combinations(rows, 2)]
            one = any(all(fits(tree, marking) for marking in rows) for tree in FOUR)
            self.assertEqual(one, pairs == [None, None, None])

    def test_no_tree_fits_what_crosses(self):
        both = {marking: {at for at, tree in enumerate(FOUR) if fits(tree, marking)} for marking in markings(4, 2)}
        for marking, other in product(both, repeat=2):
            told = four_leaves(marking, other)
            self.assertEqual(told is not None, not both[marking] & both[other])
            seen = list(zip(marking, other))
            if set(seen) == {(0, 0), (0, 1), (1, 0), (1, 1)}:
                self.assertEqual(told, tuple(seen.index(pair) for pair in ((0, 0), (0, 1), (1, 0), (1, 1))))
            else:
                self.assertIsNone(told)

    def test_four_leaves_of_nine(self):
        for _ in range(200):
            marking, other = (tuple(MIXED.choices((0, 1), k=9)) for _ in range(2))
            seen = list(zip(marking, other))
            right = None
            if len(set(seen)) == 4:
                right = tuple(seen.index(pair) for pair in ((0, 0), (0, 1), (1, 0), (1, 1)))
            self.assertEqual(four_leaves(marking, other), right)

    def test_unfit_ahead_of_cross(self):
        crossing = ((0, 1, 1, 0), (0, 0, 1, 1))
        for rows in ((*crossing, (0, 1)), ((0, 0, 0, 0, 1), *crossing), ((0, 1, 1),), ((),)):
            with self.assertRaises(Unfit):
                joint_tree(4, rows)
        for marking, other in (((0,), (0, 1)), ((0, 1, 1, 0), (0, 0, 1, 1, 0)), ((1, 0), (1,))):
            with self.assertRaises(Unfit):
                four_leaves(marking, other)


if __name__ == "__main__":
    unittest.main()
