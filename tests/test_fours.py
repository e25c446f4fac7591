"""F1 to F5, and A2 (c): four words of webs."""

import random
import unittest
from itertools import combinations

from forktold.errors import NotForked, NoWeb, TooMany
from forktold.fours import (
    bad_five, enough, four_at, four_fault, four_words, has_four, least_fours, other_web, web_of_fours, webs_with,
)
from forktold.halvings import web_error, web_of
from tests.reference import (
    all_fours, all_lots, all_webs, forked_webs, fours_of_web, rest_of, slow_four_fault, subsets, web_has,
)

WEBS = [web for size in range(1, 7) for web in all_webs(size)]
FIVE = all_webs(5)
TOLD = {fours_of_web(web): web for web in FIVE}
SUBSETS = subsets(all_fours(5))
WIDE = web_of(9, tuple(tuple(range(1, many)) for many in range(3, 9)))
MIXED = random.Random(20)


def some_words(size, many):
    """So many words of a size, some of them more than once."""
    return tuple(MIXED.choices(all_fours(size), k=many))


def slow_bad_five(size, words):
    """The first lot whose words are those of no web, by all webs of its leaves."""
    for lot in [*combinations(range(size), 4), *combinations(range(size), 5)]:
        inner = {tuple(lot.index(leaf) for leaf in word) for word in words if set(word) <= set(lot)}
        if inner not in [set(fours_of_web(web)) for web in all_webs(len(lot))]:
            return lot
    return None


class Words(unittest.TestCase):
    def test_words_of_webs(self):
        for web in WEBS:
            self.assertEqual(four_words(web), fours_of_web(web))
            for word in all_fours(web[0]):
                self.assertIs(has_four(web, word), web_has(web, word))

    def test_four_at(self):
        for web in WEBS:
            for lot in combinations(range(web[0]), 4):
                told = [word for word in fours_of_web(web) if set(word) == set(lot)]
                self.assertLessEqual(len(told), 1)
                self.assertEqual(four_at(web, lot), told[0] if told else None)

    def test_small_and_great_sizes(self):
        for size in (1, 2, 3, 4, 9):
            self.assertEqual(four_words((size, ())), ())
        self.assertEqual(four_words(WIDE), fours_of_web(WIDE))
        self.assertEqual(len(four_words(WIDE)), 126)
        self.assertEqual(four_at(WIDE, (0, 2, 5, 8)), (0, 8, 2, 5))
        self.assertIs(four_at((9, ()), (0, 2, 5, 8)), None)
        self.assertIs(has_four((4, ((1, 3),)), (0, 2, 1, 3)), True)
        self.assertIs(has_four((4, ((1, 3),)), (0, 3, 1, 2)), False)


class Fault(unittest.TestCase):
    def test_each_set_of_words_of_five_leaves(self):
        for words in SUBSETS:
            fault = four_fault(5, words)
            self.assertEqual(fault is None, words in TOLD, words)
            self.assertEqual(fault, slow_four_fault(5, words))

    def test_each_set_of_words_of_four_leaves(self):
        for words in subsets(all_fours(4)):
            self.assertEqual(four_fault(4, words), slow_four_fault(4, words))
            self.assertEqual(four_fault(4, words) is None, len(words) < 2)

    def test_order_and_number_make_no_difference(self):
        for words in SUBSETS[::97]:
            self.assertEqual(four_fault(5, words[::-1] + words), four_fault(5, words))

    def test_more_leaves(self):
        for web in [WIDE, *MIXED.sample(all_webs(6), 30)]:
            words = fours_of_web(web)
            self.assertIs(four_fault(web[0], words), None)
            for word in words[::7]:
                left = tuple(other for other in words if other != word)
                twins = tuple(other for other in all_fours(web[0]) if set(other) == set(word))
                for given in (left, words + twins, left + twins[:1], left + twins[1:2], left + twins[2:]):
                    self.assertEqual(four_fault(web[0], given), slow_four_fault(web[0], given))

    def test_any_words_of_nine_leaves(self):
        for many in (1, 2, 5, 300):
            words = some_words(9, many)
            self.assertEqual(four_fault(9, words), slow_four_fault(9, words))

    def test_no_words(self):
        for size in range(1, 10):
            self.assertIs(four_fault(size, ()), None)


class WebOfFours(unittest.TestCase):
    def check_no_web(self, size, words):
        with self.assertRaises(NoWeb) as caught:
            web_of_fours(size, words)
        self.assertEqual(caught.exception.error, slow_four_fault(size, words))

    def test_of_each_set_of_words_of_five_leaves(self):
        for words in SUBSETS[:2000] + SUBSETS[2000::37] + list(TOLD):
            if words in TOLD:
                self.assertEqual(web_of_fours(5, words), TOLD[words])
            else:
                self.check_no_web(5, words)

    def test_there_and_back(self):
        for web in [*WEBS, WIDE, (9, ()), (9, ((1, 2), (3, 4), (5, 6, 7, 8)))]:
            words = fours_of_web(web)
            self.assertEqual(web_of_fours(web[0], words), web)
            self.assertEqual(web_of_fours(web[0], (words[::-1] + words)[:300]), web)

    def test_small_sizes(self):
        for size in (1, 2, 3, 4, 9):
            self.assertEqual(web_of_fours(size, ()), (size, ()))
        self.check_no_web(4, ((0, 2, 1, 3), (0, 1, 2, 3), (0, 2, 1, 3)))
        self.check_no_web(9, ((0, 1, 2, 3),))


class BadFive(unittest.TestCase):
    def test_of_five_leaves(self):
        for words in SUBSETS[:1000] + SUBSETS[1000::53] + list(TOLD):
            lot = bad_five(5, words)
            self.assertEqual(lot, slow_bad_five(5, words))
            self.assertEqual(lot is None, words in TOLD)

    def test_of_six_leaves(self):
        for web in MIXED.sample(all_webs(6), 40):
            words = fours_of_web(web)
            self.assertIs(bad_five(6, words), None)
            for given in (words[1:], words[:-1], words + some_words(6, 1), words[::-1] + some_words(6, 3)):
                self.assertEqual(bad_five(6, given), slow_bad_five(6, given))
                self.assertEqual(bad_five(6, given) is None, four_fault(6, given) is None)

    def test_fours_come_ahead_of_fives(self):
        words = ((0, 1, 2, 3), (5, 6, 7, 8), (5, 7, 6, 8))
        self.assertEqual(bad_five(9, words), (5, 6, 7, 8))
        self.assertEqual(bad_five(9, words[:2]), (0, 1, 2, 3, 4))
        self.assertEqual(bad_five(9, words[1:2]), (0, 5, 6, 7, 8))

    def test_none(self):
        for size in range(1, 10):
            self.assertIs(bad_five(size, ()), None)
        self.assertIs(bad_five(4, ((0, 2, 1, 3), (0, 2, 1, 3))), None)
        self.assertIs(bad_five(9, fours_of_web(WIDE)), None)


class Enough(unittest.TestCase):
    def check_webs(self, size, words):
        having = tuple(web for web in forked_webs(size) if all(web_has(web, word) for word in words))
        self.assertEqual(webs_with(size, words), having)

    def test_webs_with(self):
        for words in subsets(all_fours(4)) + [((0, 2, 1, 3),) * 300]:
            self.check_webs(4, words)
        for words in SUBSETS[:576] + list(TOLD):
            self.check_webs(5, words)
        for many in (0, 1, 1, 2, 2, 3, 300):
            self.check_webs(6, some_words(6, many))
        for web in MIXED.sample(all_webs(6), 9):
            self.check_webs(6, fours_of_web(web))
            self.check_webs(6, fours_of_web(web)[::3])

    def test_webs_with_no_words(self):
        self.assertEqual([len(webs_with(size, ())) for size in range(1, 7)], [1, 1, 1, 3, 15, 105])
        for size in (1, 2, 3):
            self.assertEqual(webs_with(size, ()), ((size, ()),))
        for size in (4, 5, 6):
            self.assertEqual(list(webs_with(size, ())), sorted(webs_with(size, ())))

    def check_enough(self, web, words, having):
        """Whether the answers are right, having being all webs with the words."""
        right = all(set(web[1]) <= set(other[1]) for other in having)
        self.assertIs(enough(web, words), right)
        other = other_web(web, words)
        self.assertEqual(other is None, right)
        if other is not None:
            self.assertIs(web_error(other), None)
            self.assertEqual((other[0], len(other[1])), (web[0], max(0, web[0] - 3)))
            self.assertTrue(all(web_has(other, word) for word in words))
            self.assertFalse(set(web[1]) <= set(other[1]))

    def test_by_all_webs_of_four_leaves(self):
        webs = all_webs(4)
        for words in subsets(all_fours(4)):
            having = [web for web in webs if all(web_has(web, word) for word in words)]
            for web in webs:
                self.check_enough(web, words, having)

    def test_by_all_webs_of_five_leaves(self):
        for words in SUBSETS[:121] + SUBSETS[121:1940:31] + list(TOLD):
            having = [web for web in FIVE if all(web_has(web, word) for word in words)]
            for web in FIVE:
                self.check_enough(web, words, having)

    def test_by_all_webs_of_six_leaves(self):
        webs = all_webs(6)
        for web in MIXED.sample(webs, 12):
            for words in (fours_of_web(web), fours_of_web(web)[::2], some_words(6, 1)):
                having = [other for other in webs if all(web_has(other, word) for word in words)]
                self.check_enough(web, words, having)

    def test_small_sizes(self):
        for size in (1, 2, 3):
            self.assertIs(other_web((size, ()), ()), None)
            self.assertIs(enough((size, ()), ()), True)

    def test_too_many_leaves(self):
        calls = [
            lambda size: webs_with(size, ()), lambda size: other_web((size, ()), ()),
            lambda size: enough((size, ()), ((0, 1, 2, 3),)),
        ]
        for call in calls:
            for size in (7, 8, 9):
                with self.assertRaises(TooMany) as caught:
                    call(size)
                self.assertEqual(caught.exception.limit, 6)


def slow_least_four(web, halving):
    """The word of F5 by sets of leaves."""
    size, halvings = web
    inner = [set(other) for other in halvings if set(other) < set(halving)] + [{leaf} for leaf in halving]
    ends = sorted(min(row) for row in inner if not any(row < other for other in inner))
    outer = [set(other) for other in halvings if set(halving) < set(other)] + [set(range(1, size))]
    around = min(outer, key=len)
    return (0, min(around - set(halving)), *ends)


class LeastFours(unittest.TestCase):
    def test_of_forked_webs(self):
        for size in range(1, 7):
            for web in forked_webs(size):
                words = least_fours(web)
                self.assertEqual(words, tuple(slow_least_four(web, halving) for halving in web[1]))
                self.assertTrue(all(web_has(web, word) for word in words))

    def test_enough_and_none_left_over(self):
        for size in range(1, 7):
            for web in forked_webs(size)[::3]:
                words = least_fours(web)
                self.assertIs(enough(web, words), True)
                self.assertEqual(webs_with(size, words), (web,))
                for at in range(len(words)):
                    self.assertIs(enough(web, words[:at] + words[at + 1:]), False)

    def test_never_fewer(self):
        for web in forked_webs(5):
            for words in combinations(fours_of_web(web), 1):
                self.assertIs(enough(web, words), False)

    def test_of_nine_leaves(self):
        self.assertEqual(least_fours(WIDE), tuple(slow_least_four(WIDE, halving) for halving in WIDE[1]))
        self.assertEqual(least_fours(WIDE)[:2], ((0, 3, 1, 2), (0, 4, 1, 3)))

    def check_not_forked(self, web, knot):
        with self.assertRaises(NotForked) as caught:
            least_fours(web)
        self.assertEqual(caught.exception.nest, knot)

    def test_not_forked(self):
        self.check_not_forked((4, ()), ((0,), (1,), (2,), (3,)))
        self.check_not_forked((5, ((1, 2, 3),)), ((0, 4), (1,), (2,), (3,)))
        self.check_not_forked((6, ((1, 2, 3), (1, 2, 3, 4))), ((0, 4, 5), (1,), (2,), (3,)))
        self.check_not_forked((7, ((1, 2, 3),)), ((0,), (1, 2, 3), (4,), (5,), (6,)))
        self.check_not_forked((9, ()), tuple((leaf,) for leaf in range(9)))
        for web in WEBS:
            if len(web[1]) < web[0] - 3:
                with self.assertRaises(NotForked) as caught:
                    least_fours(web)
                self.assertGreater(len(caught.exception.nest), 3)


class Halvings(unittest.TestCase):
    def test_halvings_by_words(self):
        """A web's halvings are those of which each two by two is a word."""
        for web in all_webs(5):
            words = set(fours_of_web(web))
            for halving in all_lots(5, 2):
                if 0 not in halving and len(halving) < 4:
                    rest = rest_of(5, halving)
                    told = {
                        tuple(sum(sorted([pair, other]), ()))
                        for pair in combinations(halving, 2) for other in combinations(rest, 2)
                    }
                    self.assertEqual(told <= words, halving in web_of_fours(5, tuple(words))[1])


if __name__ == "__main__":
    unittest.main()
