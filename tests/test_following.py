"""C5 to C7: words that follow, words of one tree, words that tell a tree."""

import copy
import unittest

from forktold.errors import Clash, NotForked
from forktold.nearer import (
    clash_holds, contraries, follow_holds, follow_paper, following, nearer_words, tree_of_words, told_alone, telling,
    untold, word_fault, word_follows,
)
from forktold.nests import above, is_forked, parts
from forktold.trees import bush, comb, tree_of
from tests.reference import (
    ODD, Keeping, all_trees, all_words, changed, slow_follow_holds, subsets, tree_has, words_of,
)

FOUR = Keeping(4)
SUBSETS = subsets(FOUR.words)
FORKED = [tree for size in (1, 2, 3, 4, 5) for tree in all_trees(size) if len(tree[1]) == size - 1]


class Follows(unittest.TestCase):
    def test_following_by_all_trees(self):
        for words in SUBSETS:
            if FOUR.keepers(words):
                expected = tuple(word for word in FOUR.words if FOUR.follows(words, word))
                self.assertEqual(following(4, words), expected)
            else:
                with self.assertRaises(Clash) as caught:
                    following(4, words)
                self.assertTrue(clash_holds(4, words, caught.exception.paper))

    def test_word_follows_and_its_paper_by_all_trees(self):
        for words in SUBSETS[:600] + SUBSETS[600::9]:
            for word in FOUR.words:
                follows = FOUR.follows(words, word)
                self.assertIs(word_follows(4, words, word), follows)
                value = follow_paper(4, words, word)
                self.assertEqual(value[0], "clash" if follows else "tree")
                self.assertTrue(slow_follow_holds(4, words, word, value), (words, word, value))
                self.assertIs(follow_holds(4, words, word, value), True)

    def test_following_of_more_leaves(self):
        words = nearer_words(comb(9))
        self.assertEqual(following(9, words * 3), words)
        self.assertEqual(following(9, telling(comb(9))), words)
        self.assertEqual(following(9, ((7, 8, 0),)), ((7, 8, 0),))
        self.assertEqual((following(1, ()), following(9, ())), ((), ()))

    def test_each_word_follows_from_what_no_tree_keeps(self):
        words = ((0, 1, 2), (0, 2, 1)) * 2
        for word in all_words(5):
            self.assertIs(word_follows(5, words, word), True)
            kind, first, second = follow_paper(5, words, word)
            self.assertEqual(kind, "clash")
            self.assertTrue(clash_holds(5, words + contraries(word)[:1], first))
            self.assertTrue(clash_holds(5, words + contraries(word)[1:], second))
        with self.assertRaises(Clash):
            following(5, words)

    def test_as_many_words_as_may_be(self):
        words = (nearer_words(comb(9)) * 4)[:299]
        self.assertIs(word_follows(9, words, (0, 1, 2)), True)
        self.assertTrue(follow_holds(9, words, (0, 1, 2), follow_paper(9, words, (0, 1, 2))))

    def test_follow_holds_for_each_tree(self):
        for words in SUBSETS[:80]:
            keepers = FOUR.keepers(words)
            for word in FOUR.words:
                for tree in FOUR.trees:
                    right = tree in keepers and not tree_has(tree, word)
                    self.assertIs(follow_holds(4, words, word, ("tree", tree)), right)

    def test_follow_holds_of_any_value(self):
        words = ((0, 1, 2), (1, 2, 3))
        clash = ("clash", ((0, 1, 2, 3), (0, 1, 2)), ((0, 1, 2, 3), (0, 1, 2)))
        cases = [(words, (0, 1, 3), clash), (words[:1], (0, 1, 3), ("tree", (4, ((0, 1, 3), (0, 1, 2, 3)))))]
        for given, word, value in cases:
            self.assertIs(follow_holds(4, given, word, value), True)
            for other in (*ODD, *changed(value), ("tree",) + clash[1:], ("clash", value[1])):
                before = copy.deepcopy(other)
                right = slow_follow_holds(4, given, word, other)
                self.assertIs(follow_holds(4, given, word, other), right, other)
                self.assertEqual(other, before)

    def test_follow_holds_asks_for_the_size_and_the_order(self):
        self.assertIs(follow_holds(4, (), (0, 1, 2), ("tree", bush(4))), True)
        self.assertIs(follow_holds(4, (), (0, 1, 2), ("tree", bush(5))), False)
        self.assertIs(follow_holds(4, (), (0, 1, 2), ["tree", bush(4)]), False)
        words = ((0, 1, 2), (0, 1, 2))
        first, second = ((0, 1, 2), (0, 2)), ((0, 1, 2), (1, 2))
        self.assertIs(follow_holds(3, words, (0, 1, 2), ("clash", first, second)), True)
        words = ((0, 1, 2), (1, 2, 3), (0, 3, 1))
        first, second = ((0, 1, 2, 3), (0, 1, 3)), ((0, 1, 2, 3), (0, 1, 2))
        for value in (("clash", first, second), ("clash", second, first), ("clash", second, second)):
            right = slow_follow_holds(4, words, (0, 1, 3), value)
            self.assertIs(follow_holds(4, words, (0, 1, 3), value), right)


def slow_fault(size, words):
    """The two rules of C6, looked at word by word."""
    there = set(words)
    for word in sorted(there):
        twins = sorted(other for other in there if set(other) == set(word) and other != word)
        if twins:
            return "twice", word, twins[0]
    for a, b, c in sorted(there):
        for d in sorted(set(range(size)) - {a, b, c}):
            inside = {(min(a, d), max(a, d), c), (min(b, d), max(b, d), c)}
            if (a, b, d) not in there and not inside <= there:
                return "lacks", (a, b, c), d
    return None


class WordFault(unittest.TestCase):
    def test_each_set_of_words_of_four_leaves(self):
        told = {words_of(tree) for tree in all_trees(4)}
        for words in SUBSETS:
            fault = word_fault(4, words)
            self.assertEqual(fault is None, words in told)
            self.assertEqual(fault, slow_fault(4, words))
            if fault is None:
                self.assertEqual(nearer_words(tree_of_words(4, words)), words)

    def test_order_and_number_make_no_difference(self):
        for words in SUBSETS[::7]:
            self.assertEqual(word_fault(4, words[::-1] + words), word_fault(4, words))

    def test_more_leaves(self):
        words = nearer_words(comb(9))
        self.assertIs(word_fault(9, words), None)
        self.assertEqual(word_fault(9, all_words(9)), ("twice", (0, 1, 2), (0, 2, 1)))
        for word in words:
            left = tuple(other for other in words if other != word)
            self.assertEqual(word_fault(9, left), slow_fault(9, left))
            twice = words + contraries(word)
            self.assertEqual(word_fault(9, twice), slow_fault(9, twice))
        self.assertEqual([word_fault(size, ()) for size in range(1, 10)], [None] * 9)


class Telling(unittest.TestCase):
    def test_told_alone_by_all_trees(self):
        for at, tree in enumerate(FOUR.trees):
            if is_forked(tree):
                for words in SUBSETS:
                    self.assertEqual(told_alone(tree, words), FOUR.mask(words) == 1 << at, (tree, words))

    def test_telling_is_enough_and_least(self):
        for tree in FORKED:
            words = telling(tree)
            self.assertEqual(len(words), max(0, tree[0] - 2))
            self.assertEqual(list(words), sorted(set(words)))
            self.assertIs(told_alone(tree, words), True)
            self.assertEqual(tree_of_words(tree[0], words), tree)
            for at in range(len(words)):
                self.assertIs(told_alone(tree, words[:at] + words[at + 1:]), False)

    def test_telling_leaves_no_other_tree(self):
        five = Keeping(5)
        for tree in FORKED:
            if tree[0] == 5:
                self.assertEqual(five.keepers(telling(tree)), [tree])

    def test_untold(self):
        for tree in FORKED:
            for words in (telling(tree), nearer_words(tree), nearer_words(tree)[::2], (), tuple(all_words(tree[0]))):
                self.assertEqual(untold(tree, words), self.slow_untold(tree, words))
        for tree in all_trees(4):
            if is_forked(tree):
                for words in SUBSETS[::5]:
                    self.assertEqual(untold(tree, words), self.slow_untold(tree, words))

    def slow_untold(self, tree, words):
        for nest in tree[1]:
            if len(nest) < tree[0]:
                first, second = parts(tree, nest)
                outer = set(above(tree, nest)[0]) - set(nest)
                ends = [({a, b}, c) for a, b, c in words]
                if not any(pair & set(first) and pair & set(second) and c in outer for pair, c in ends):
                    return nest
        return None

    def test_small_sizes(self):
        for tree in (bush(1), bush(2)):
            self.assertEqual((telling(tree), untold(tree, ()), told_alone(tree, ())), ((), None, True))
        self.assertEqual(len(telling(comb(9))), 7)
        self.assertIs(told_alone(comb(3), ()), False)
        self.assertEqual(untold(comb(3), ()), (0, 1))

    def test_a_word_that_the_tree_does_not_have(self):
        self.assertIs(untold(comb(3), ((0, 1, 2), (1, 2, 0))), None)
        self.assertIs(told_alone(comb(3), ((0, 1, 2), (1, 2, 0))), False)
        self.assertIs(told_alone(comb(3), ((0, 1, 2), (0, 1, 2))), True)

    def test_not_forked(self):
        tree = tree_of(7, ((0, 1), (2, 3, 4), (0, 1, 5)))
        rows = [(bush(3), (0, 1, 2)), (bush(9), tuple(range(9))), (tree, (2, 3, 4)), (tree_of(4, ((0, 1),)), (0, 1, 2, 3))]
        for tree, nest in rows:
            for call in (
                lambda: telling(tree), lambda: untold(tree, ()), lambda: told_alone(tree, ()),
                lambda: untold(tree, ((0, 1, 2),)), lambda: told_alone(tree, ((0, 1, 2), (0, 2, 1))),
            ):
                with self.assertRaises(NotForked) as caught:
                    call()
                self.assertEqual(caught.exception.nest, nest)


if __name__ == "__main__":
    unittest.main()
