"""How long a call takes at the ends of the document's bounds."""

import time
import unittest

from forktold import agree, fours, roots, several
from forktold.halvings import web_of
from forktold.texts import parse_tree
from forktold.trees import bush, comb

# No call may take more than a few seconds; these take far less than one.
SECONDS = 3

TREES = tuple(parse_tree(text) for text in (
    "((0 (2 4)) ((1 3) ((5 8) (6 7))))", "((((0 4) 5) 3) ((1 (6 7)) (2 8)))", "((((0 1) (2 3) 4 7) 8) (5 6))",
    "(((0 4) (5 8)) (1 ((2 (3 7)) 6)))", "(((0 8) 5) ((((1 3) (2 7)) 4) 6))", "(((0 (1 3)) (((2 5) 8) 7)) (4 6))",
    "((0 (1 5) (2 7) (4 8)) 3 6)", "(0 (1 (2 (3 (4 (5 (6 (7 8))))))))", "((((((((0 1) 2) 3) 4) 5) 6) 7) 8)",
    "((((((((0 8) 7) 6) 5) 4) 3) 2) 1)", "(0 1 2 3 4 5 6 7 8)", "((0 1 2) (3 4 5) (6 7 8))",
))
BETWEEN = (TREES[3], TREES[4])
WIDE = web_of(9, tuple(tuple(range(1, many)) for many in range(3, 9)))
LOT = tuple(range(9))


class Speed(unittest.TestCase):
    def check(self, function, *values):
        start = time.process_time()
        try:
            function(*values)
        except ValueError:
            pass
        self.assertLess(time.process_time() - start, SECONDS, function.__name__)

    def test_several_trees(self):
        for trees in (TREES, BETWEEN, BETWEEN * 6, (bush(9),) * 12):
            for name in ("in_all", "in_most", "not_against", "by_support", "crossing_pair", "together", "least_spread",
                         "middle_count", "middles"):
                self.check(getattr(several, name), trees)
            self.check(several.at_least, trees, 1)
            self.check(several.is_middle, trees, comb(9))

    def test_where_trees_are_the_same(self):
        for trees in (TREES, BETWEEN, BETWEEN * 6, (bush(9), comb(9)), (bush(9),) * 12):
            for name in ("clash_threes", "hard_threes", "agreements", "greatest_agreement", "fittings"):
                self.check(getattr(agree, name), trees)
            for name in ("is_agreement", "agreed_tree", "fits", "fitted_tree"):
                self.check(getattr(agree, name), trees, LOT)
            self.check(agree.agreement_table, *trees[:2])
            self.check(agree.distance, *trees[:2])
            self.check(agree.agree_number, *trees[:2], LOT, LOT)

    def test_webs(self):
        words = fours.four_words(WIDE)
        most = (words * 3)[:300]
        self.check(roots.all_rooted, WIDE)
        self.check(roots.knots, WIDE)
        self.check(fours.four_words, WIDE)
        for name in ("four_fault", "web_of_fours", "bad_five"):
            self.check(getattr(fours, name), 9, most)
            self.check(getattr(fours, name), 9, words[1:])
        self.check(fours.least_fours, WIDE)

    def test_all_forked_webs_of_six_leaves(self):
        web = web_of(6, ((1, 2), (1, 2, 3), (1, 2, 3, 4)))
        words = fours.four_words(web)
        for given in ((), words, words * 20):
            self.check(fours.webs_with, 6, given)
            self.check(fours.other_web, web, given)
            self.check(fours.enough, web, given)


if __name__ == "__main__":
    unittest.main()
