"""M1 to M4, and A2 (g): leaves put in and taken out, nests merged and split off, turns."""

import random
import unittest
from itertools import combinations, product

from forktold.errors import Cross, NotForked, NotNest, TooMany, Unfit
from forktold.moves import cut_and_put, merged, put_in, row_of_turns, split, steps, steps_error, take_out, turns
from forktold.trees import bush, comb, tree_error, tree_of
from tests.reference import (
    ODD, all_lots, all_trees, changed, forked_trees, mixed_tree, rank, slow_at, slow_crossing, slow_differs, slow_parts,
    slow_put_in, slow_tree_error, wide_nests,
)

MIXED = random.Random(61)
FOUR = all_trees(4)
SMALL = [tree for size in (1, 2, 3) for tree in all_trees(size)] + FOUR
SOME = SMALL + MIXED.sample(all_trees(5), 30) + [mixed_tree(9, False, MIXED) for _ in range(4)]
EIGHT = [mixed_tree(8, forked, MIXED) for forked in (True, False, False)]
FORKED = {size: forked_trees(size) for size in range(1, 6)}


class Leaves(unittest.TestCase):
    def test_put_in(self):
        for tree in [tree for tree in SOME if tree[0] < 9] + EIGHT:
            for lot in all_lots(tree[0], 1):
                found = put_in(tree, lot)
                self.assertEqual(found, slow_put_in(tree, lot))
                self.assertIsNone(slow_tree_error(found))
                self.assertEqual(take_out(found, tree[0]), tree)
                if lot in tree[1] or len(lot) == 1:
                    joint = (*lot, tree[0])
                    self.assertEqual(slow_parts(found, joint), [lot, (tree[0],)])

    def test_too_many(self):
        for tree in (bush(9), comb(9)):
            for lot in ((0,), (0, 1), (3, 5), tuple(range(9))):
                with self.assertRaises(TooMany) as caught:
                    put_in(tree, lot)
                self.assertEqual(caught.exception.limit, 9)
        self.assertEqual(put_in(bush(8), tuple(range(8)))[0], 9)

    def test_take_out(self):
        for tree in SOME:
            if tree[0] > 1:
                for leaf in range(tree[0]):
                    rest = tuple(other for other in range(tree[0]) if other != leaf)
                    self.assertEqual(take_out(tree, leaf), slow_at(tree, rest))


class Nests(unittest.TestCase):
    def test_merged(self):
        for tree in SOME:
            for lot in all_lots(tree[0]):
                if lot in tree[1] and len(lot) < tree[0]:
                    found = merged(tree, lot)
                    self.assertEqual(found, (tree[0], tuple(nest for nest in tree[1] if nest != lot)))
                    around = next(nest for nest in tree[1] if set(lot) < set(nest))
                    self.assertTrue(set(slow_parts(tree, lot)) <= set(slow_parts(found, around)))
                    self.assertEqual(split(found, lot), tree)
                else:
                    with self.assertRaises(NotNest) as caught:
                        merged(tree, lot)
                    self.assertEqual(caught.exception.lot, lot)

    def test_split(self):
        for tree in SOME:
            for lot in all_lots(tree[0], 2):
                crossed = [nest for nest in tree[1] if slow_crossing(lot, nest)]
                if crossed:
                    with self.assertRaises(Cross) as caught:
                        split(tree, lot)
                    self.assertEqual(caught.exception.pair, (lot, crossed[0]))
                else:
                    self.assertEqual(split(tree, lot), (tree[0], tuple(sorted({*tree[1], lot}, key=rank))))


def slow_steps_error(tree, other, value):
    if type(value) is not tuple or not value:
        return "trees"
    if any(slow_tree_error(item) is not None or item[0] != tree[0] for item in value):
        return "trees"
    if value[0] != tree or value[-1] != other:
        return "ends"
    wrong = [at for at in range(1, len(value)) if len(set(value[at][1]) ^ set(value[at - 1][1])) != 1]
    if wrong:
        return wrong[0]
    return "long" if len(value) - 1 > slow_differs(tree, other) else None


class Steps(unittest.TestCase):
    def test_as_many_as_nests_that_one_alone_has(self):
        rows = [*product(FOUR, repeat=2), ((1, ()), (1, ())), (bush(2), bush(2))]
        rows += [(mixed_tree(size, False, MIXED), mixed_tree(size, True, MIXED)) for size in (5, 6, 9) for _ in range(20)]
        for tree, other in rows:
            with self.subTest(tree=tree, other=other):
                value = steps(tree, other)
                self.assertEqual(len(value), slow_differs(tree, other) + 1)
                self.assertIsNone(slow_steps_error(tree, other, value))
                self.assertIsNone(steps_error(tree, other, value))

    def test_steps_error(self):
        for tree, other in MIXED.sample(list(product(FOUR, repeat=2)), 60) + [((1, ()), (1, ()))]:
            value = steps(tree, other)
            rows = [value[:-1], value[1:], value[::-1], value + value[-1:], (value[0],) + value, value[:1] + value[2:]]
            rows += [(tree, bush(4), other), (tree, bush(4), tree, *value[1:]), (tree, comb(4), *value)]
            rows += [value + (turn, other) for turn in FOUR[::3]] + [(tree, turn, tree, *value[1:]) for turn in FOUR]
            rows += [(*value[:-1], (3, ((0, 1, 2),)), other), list(value), (tree,), (other,), (tree, other)]
            rows += [*changed(value[-2:]), *ODD]
            for row in rows:
                self.assertEqual(repr(steps_error(tree, other, row)), repr(slow_steps_error(tree, other, row)), repr(row))

    def test_each_error(self):
        tree, other = tree_of(4, ((0, 1),)), tree_of(4, ((2, 3),))
        middle, both = bush(4), tree_of(4, ((0, 1), (2, 3)))
        told = {
            "trees": ((), None, [tree, middle, other], (tree, None, other), (tree, bush(3), other)),
            "ends": ((tree,), (other,), (middle, other), (tree, middle), (other, middle, tree)),
            1: ((tree, other), (tree, tree, middle, other), (tree, tree_of(4, ((1, 2),)), middle, other)),
            2: ((tree, middle, middle, other), (tree, both, comb(4), other)),
            "long": ((tree, both, tree, middle, other), (tree, middle, other, both, other)),
            None: ((tree, both, other), (tree, middle, other)),
        }
        for error, rows in told.items():
            for row in rows:
                self.assertEqual(steps_error(tree, other, row), error)

    def test_unlike_sizes(self):
        for tree, other in ((bush(3), bush(4)), (comb(4), comb(3)), ((1, ()), bush(2))):
            with self.assertRaises(Unfit):
                steps(tree, other)
            for value in (None, (tree,), (tree, other)):
                with self.assertRaises(Unfit):
                    steps_error(tree, other, value)


def slow_turns(tree):
    """All forked trees that have all nests but one, and one more, whose leaves are as M4 has them."""
    found = set()
    for around in tree[1]:
        for nest, beside in [(part, other) for part, other in product(slow_parts(tree, around), repeat=2) if part != other]:
            if len(nest) > 1:
                for part in slow_parts(tree, nest):
                    joint = tuple(sorted(part + beside))
                    found.add((tree[0], tuple(sorted({*tree[1], joint} - {nest}, key=rank))))
    return found


def turn_ranks(tree):
    return [rank(nest) for nest in tree[1]]


class Turns(unittest.TestCase):
    def test_turns(self):
        for tree in [tree for size in FORKED for tree in FORKED[size]] + [mixed_tree(9, True, MIXED) for _ in range(5)]:
            found = turns(tree)
            self.assertEqual(set(found), slow_turns(tree))
            self.assertEqual(len(found), max(0, 2 * tree[0] - 4))
            self.assertEqual(list(found), sorted(set(found), key=turn_ranks))
            for turn in found:
                self.assertIsNone(slow_tree_error(turn))
                self.assertIn(tree, turns(turn))

    def test_rows_of_turns(self):
        for size in (1, 2, 3, 4, 5):
            for tree in FORKED[size][:: 1 if size < 5 else 35]:
                many, reached = {tree: 1}, [tree]
                for row in reached:
                    for turn in sorted(slow_turns(row)):
                        if turn not in many:
                            many[turn] = many[row] + 1
                            reached.append(turn)
                self.assertEqual(len(many), len(FORKED[size]))
                for other in FORKED[size]:
                    self.check_row(tree, other, many[other])

    def check_row(self, tree, other, many):
        row = row_of_turns(tree, other)
        self.assertEqual((row[0], row[-1], len(row)), (tree, other, many))
        self.assertTrue(all(turn in slow_turns(ahead) for ahead, turn in zip(row, row[1:])))

    def test_six_leaves(self):
        self.check_row(comb(6), comb(6), 1)
        self.check_row(comb(6), turns(comb(6))[3], 2)
        other = tree_of(6, ((3, 5), (1, 3, 5), (0, 4), (0, 2, 4)))
        self.assertEqual(row_of_turns(comb(6), other)[-1], other)
        self.assertEqual(len(row_of_turns(comb(6), other)), len(row_of_turns(other, comb(6))))

    def test_errors_in_order(self):
        wide, wider = tree_of(6, ((0, 1, 2),)), tree_of(7, ((0, 1, 2), (3, 4, 5)))
        for tree, other, nest in (
            (wide, comb(6), (0, 1, 2)), (comb(6), wide, (0, 1, 2)), (bush(6), wide, tuple(range(6))),
            (wider, bush(7), (0, 1, 2)), (comb(7), bush(7), tuple(range(7))),
        ):
            with self.assertRaises(NotForked) as caught:
                row_of_turns(tree, other)
            self.assertEqual(caught.exception.nest, nest)
        for tree, other in ((wide, comb(5)), (comb(7), wide), (bush(9), bush(8)), ((1, ()), bush(2))):
            with self.assertRaises(Unfit):
                row_of_turns(tree, other)
        for size in (7, 8, 9):
            with self.assertRaises(TooMany) as caught:
                row_of_turns(comb(size), comb(size))
            self.assertEqual(caught.exception.limit, 6)
        for tree in SMALL + [wider]:
            if wide_nests(tree):
                with self.assertRaises(NotForked) as caught:
                    turns(tree)
                self.assertEqual(caught.exception.nest, wide_nests(tree)[0])


def places_of(nests):
    return [(leaf,) for leaf in sorted({leaf for nest in nests for leaf in nest})] + nests


def slow_cut_and_put(tree, lot, place):
    """What is cut off and what is left as trees of nested tuples, put together again."""
    def told(nest):
        return {nest} | {inner for inner in tree[1] if set(inner) < set(nest)}

    left = {tuple(leaf for leaf in nest if leaf not in lot) for nest in tree[1]}
    result = {nest for nest in told(lot) if len(nest) > 1}
    for nest in left:
        if len(nest) > 1:
            around = set(place) < set(nest)
            result.add(tuple(sorted({*nest, *lot})) if around else nest)
    result.add(tuple(sorted({*place, *lot})))
    return tree[0], tuple(sorted(result, key=rank))


class CutAndPut(unittest.TestCase):
    def test_all_places(self):
        for tree in [tree for size in (3, 4) for tree in FORKED[size]] + FORKED[5][::12] + [mixed_tree(9, True, MIXED)]:
            everyone = tuple(range(tree[0]))
            for lot in all_lots(tree[0]):
                rest = tuple(leaf for leaf in everyone if leaf not in lot)
                left = [tuple(leaf for leaf in nest if leaf not in lot) for nest in tree[1]]
                places = {(leaf,) for leaf in rest} | {nest for nest in left if len(nest) > 1}
                whole = len(lot) == 1 or lot in tree[1][:-1]
                for place in all_lots(tree[0]) if tree[0] < 6 else places:
                    if whole and place in places:
                        found = cut_and_put(tree, lot, place)
                        self.check(tree, lot, place, found)
                    elif tree[0] < 6:
                        with self.assertRaises(NotNest) as caught:
                            cut_and_put(tree, lot, place)
                        self.assertEqual(caught.exception.lot, place if whole else lot)

    def check(self, tree, lot, place, found):
        self.assertEqual(found, slow_cut_and_put(tree, lot, place))
        self.assertIsNone(tree_error(found))
        self.assertEqual(len(found[1]), tree[0] - 1)
        self.assertEqual(slow_parts(found, tuple(sorted(lot + place))), sorted([lot, place]))
        rest = tuple(leaf for leaf in range(tree[0]) if leaf not in lot)
        self.assertEqual(slow_at(found, rest), slow_at(tree, rest))
        self.assertEqual(slow_at(found, lot), slow_at(tree, lot))

    def test_back_again(self):
        for tree in FORKED[4]:
            for nest in tree[1]:
                for lot, place in product(slow_parts(tree, nest), repeat=2):
                    if lot != place:
                        self.assertEqual(cut_and_put(tree, lot, place), tree)

    def test_not_forked_ahead(self):
        for tree in [tree for tree in SMALL if tree[0] > 2 and wide_nests(tree)]:
            for lot, place in combinations([(), (0,), (0, 1), (0, 2), (1, 2, 3)], 2):
                with self.assertRaises(NotForked) as caught:
                    cut_and_put(tree, lot, place)
                self.assertEqual(caught.exception.nest, wide_nests(tree)[0])


if __name__ == "__main__":
    unittest.main()
