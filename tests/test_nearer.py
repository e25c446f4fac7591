"""C1 to C4, and A2 (b): nearer words, the tree they tell, papers."""

import copy
import unittest

from forktold.bounds import MAX_WORDS
from forktold.errors import Clash
from forktold.nearer import clash_holds, contraries, has_word, nearer_words, tree_of_words
from forktold.trees import bush, comb
from tests.reference import (
    ODD, Keeping, all_trees, all_words, changed, rank, slow_contraries, slow_is_paper, slow_nests_of_words, subsets,
    tree_has, words_of,
)

FOUR = Keeping(4)


class Words(unittest.TestCase):
    def test_nearer_words(self):
        for size in (1, 2, 3, 4, 5):
            for tree in all_trees(size):
                self.assertEqual(nearer_words(tree), words_of(tree))
        self.assertEqual(nearer_words(bush(9)), ())
        self.assertEqual(len(nearer_words(comb(9))), 84)

    def test_has_word(self):
        for tree in all_trees(4):
            for word in all_words(4):
                self.assertIs(has_word(tree, word), tree_has(tree, word))
        self.assertIs(has_word(comb(9), (0, 7, 8)), True)
        self.assertIs(has_word(comb(9), (7, 8, 0)), False)

    def test_contraries(self):
        for word in all_words(9):
            self.assertEqual(list(contraries(word)), slow_contraries(word))
        self.assertEqual(contraries((1, 2, 0)), ((0, 1, 2), (0, 2, 1)))

    def test_at_most_one_word_of_three_leaves(self):
        for tree in all_trees(4):
            words = nearer_words(tree)
            for word in words:
                self.assertFalse(any(other in words for other in contraries(word)))
            self.assertEqual(len(words) == 4, len(tree[1]) == 3)


class TreeOfWords(unittest.TestCase):
    def check_paper(self, size, words):
        with self.assertRaises(Clash) as caught:
            tree_of_words(size, words)
        paper = caught.exception.paper
        self.assertTrue(slow_is_paper(size, words, paper), (words, paper))
        self.assertIs(clash_holds(size, words, paper), True)

    def test_each_set_of_words_of_four_leaves(self):
        """A tree that keeps them, or a paper: just one of both."""
        for words in subsets(FOUR.words):
            keepers = FOUR.keepers(words)
            if keepers:
                tree = tree_of_words(4, words)
                self.assertIn(tree, keepers)
                nests = slow_nests_of_words((0, 1, 2, 3), words)
                self.assertEqual(tree, (4, tuple(sorted(nests, key=rank))))
            else:
                self.check_paper(4, words)

    def test_no_paper_where_a_tree_keeps_the_words(self):
        papers = [(lot, places) for lot in ((0, 1, 2), (0, 1, 3), (0, 2, 3), (1, 2, 3)) for places in ((0, 1), (1, 2))]
        papers.extend([((0, 1, 2, 3), (0, 1, 2)), ((0, 1, 2, 3), (1, 2, 3)), ((0, 1, 2, 3), (0, 1, 3))])
        for tree in all_trees(4):
            words = nearer_words(tree)
            self.assertFalse(any(clash_holds(4, words, paper) for paper in papers))

    def test_from_the_words_of_a_tree(self):
        for size in (1, 2, 3, 4, 5):
            for tree in all_trees(size):
                self.assertEqual(tree_of_words(size, nearer_words(tree)), tree)
        for tree in (bush(9), comb(9)):
            self.assertEqual(tree_of_words(9, nearer_words(tree)), tree)

    def test_order_and_number_make_no_difference(self):
        for tree in all_trees(4):
            words = nearer_words(tree)
            self.assertEqual(tree_of_words(4, words[::-1] * 3 + words[1:]), tree)
        words = ((2, 3, 0), (0, 1, 2), (4, 5, 6))
        for row in (words[::-1], words[1:] + words, words * 100):
            self.assertEqual(tree_of_words(7, row), tree_of_words(7, words))

    def test_tree_need_not_be_in_each_that_keeps(self):
        tree = tree_of_words(4, ((0, 1, 2),))
        self.assertEqual(tree, (4, ((0, 1), (0, 1, 2, 3))))
        self.assertIn((4, ((0, 1, 3), (0, 1, 2, 3))), FOUR.keepers(((0, 1, 2),)))

    def test_no_words(self):
        for size in range(1, 10):
            self.assertEqual(tree_of_words(size, ()), bush(size))

    def test_clashes(self):
        rows = [
            (3, ((0, 1, 2), (0, 2, 1))), (3, ((1, 2, 0), (0, 2, 1), (0, 1, 2))), (4, ((0, 1, 2), (1, 2, 3), (2, 3, 0))),
            (9, ((7, 8, 6),) * 3 + ((6, 8, 7),)), (9, tuple((leaf, leaf + 1, (leaf + 2) % 9) for leaf in range(8))),
            (9, ((0, 1, 8), (0, 2, 8), (3, 4, 0), (1, 2, 0), (0, 1, 2))), (9, tuple(all_words(9))),
        ]
        for size, words in rows:
            self.check_paper(size, words)

    def test_more_words_than_the_bound(self):
        words = nearer_words(comb(9)) * 4
        self.assertGreater(len(words), MAX_WORDS)
        self.assertEqual(tree_of_words(9, words), comb(9))


class ClashHolds(unittest.TestCase):
    def test_any_lot_and_places(self):
        """All lots and places there are, for some words of four leaves."""
        rows = [
            ((0, 1, 2), (0, 2, 1), (0, 1, 2)), ((0, 1, 2), (1, 2, 3), (0, 3, 1), (2, 3, 1)),
            ((0, 1, 2), (0, 1, 3), (2, 3, 1), (2, 3, 0)), (), ((0, 1, 2),),
        ]
        lots = subsets(range(4))
        for words in rows:
            for lot in lots:
                for places in subsets(range(len(words) + 1)):
                    value = (lot, places)
                    self.assertIs(clash_holds(4, words, value), slow_is_paper(4, words, value), (words, value))

    def test_any_value(self):
        words = ((0, 1, 2), (0, 2, 1), (2, 3, 1))
        rows = list(ODD)
        for paper in (((0, 1, 2), (0, 1)), ((0, 1, 2, 3), (0, 1, 2)), ((1, 2, 3), (0, 2))):
            rows.extend(changed(paper))
        for value in rows:
            before = copy.deepcopy(value)
            for size in (3, 4):
                given = words[:2] if size == 3 else words
                self.assertIs(clash_holds(size, given, value), slow_is_paper(size, given, value), value)
            self.assertEqual(value, before)

    def test_bools_and_lists_are_no_papers(self):
        words = ((0, 1, 2), (0, 2, 1))
        self.assertIs(clash_holds(3, words, ((0, 1, 2), (0, 1))), True)
        for value in (
            ((0, 1, 2), (False, True)), ((0, True, 2), (0, 1)), [(0, 1, 2), (0, 1)], ((0, 1, 2), [0, 1]),
            ([0, 1, 2], (0, 1)), ((0, 1, 2), (1, 0)), ((0, 1, 2), (0, 2)), ((0, 1, 2), (-1, 0)), ((0, 1), (0,)),
            ((0, 1, 2), (0, 1), ()), ((0, 1, 2),),
        ):
            self.assertIs(clash_holds(3, words, value), False)

    def test_a_lot_that_the_tree_does_not_come_to(self):
        words = ((0, 1, 2), (2, 3, 0), (1, 2, 3), (0, 2, 1))
        with self.assertRaises(Clash):
            tree_of_words(4, words)
        self.assertIs(clash_holds(4, words, ((0, 1, 2), (0, 3))), True)


if __name__ == "__main__":
    unittest.main()
