"""How long a call takes at the ends of the document's bounds."""

import time
import unittest

from forktold import agree, boards, counts, fours, lines, moves, renames, roots, several, shells, sides, signs
from forktold.halvings import web_of
from forktold.texts import parse_tree
from forktold.trees import bush, comb, tree_of

# No call may take more than a few seconds; these take far less than one.
SECONDS = 3

TREES = tuple(parse_tree(text) for text in (
    "((0 (2 4)) ((1 3) ((5 8) (6 7))))", "((((0 4) 5) 3) ((1 (6 7)) (2 8)))", "((((0 1) (2 3) 4 7) 8) (5 6))",
    "(((0 4) (5 8)) (1 ((2 (3 7)) 6)))", "(((0 8) 5) ((((1 3) (2 7)) 4) 6))", "(((0 (1 3)) (((2 5) 8) 7)) (4 6))",
    "((0 (1 5) (2 7) (4 8)) 3 6)", "(0 (1 (2 (3 (4 (5 (6 (7 8))))))))", "((((((((0 1) 2) 3) 4) 5) 6) 7) 8)",
    "((((((((0 8) 7) 6) 5) 4) 3) 2) 1)", "(0 1 2 3 4 5 6 7 8)", "((0 1 2) (3 4 5) (6 7 8))",
))
BETWEEN = (TREES[3], TREES[4])
WIDE = web_of(9, tuple(tuple(range(1, many)) for many in range(3, 9)))
LOT = tuple(range(9))


class Speed(unittest.TestCase):
    def check(self, function, *values):
        start = time.process_time()
        try:
            function(*values)
        except ValueError:
            pass
        self.assertLess(time.process_time() - start, SECONDS, repr(function))

    def test_several_trees(self):
        for trees in (TREES, BETWEEN, BETWEEN * 6, (bush(9),) * 12):
            for name in ("in_all", "in_most", "not_against", "by_support", "crossing_pair", "together", "least_spread",
                         "middle_count", "middles"):
                self.check(getattr(several, name), trees)
            self.check(several.at_least, trees, 1)
            self.check(several.is_middle, trees, comb(9))

    def test_where_trees_are_the_same(self):
        for trees in (TREES, BETWEEN, BETWEEN * 6, (bush(9), comb(9)), (bush(9),) * 12):
            for name in ("clash_threes", "hard_threes", "agreements", "greatest_agreement", "fittings"):
                self.check(getattr(agree, name), trees)
            for name in ("is_agreement", "agreed_tree", "fits", "fitted_tree"):
                self.check(getattr(agree, name), trees, LOT)
            self.check(agree.agreement_table, *trees[:2])
            self.check(agree.distance, *trees[:2])
            self.check(agree.agree_number, *trees[:2], LOT, LOT)

    def test_webs(self):
        words = fours.four_words(WIDE)
        most = (words * 3)[:300]
        self.check(roots.all_rooted, WIDE)
        self.check(roots.knots, WIDE)
        self.check(fours.four_words, WIDE)
        for name in ("four_fault", "web_of_fours", "bad_five"):
            self.check(getattr(fours, name), 9, most)
            self.check(getattr(fours, name), 9, words[1:])
        self.check(fours.least_fours, WIDE)

    def test_signs(self):
        for tree in (*TREES, bush(9)):
            for marking in ((0, 1, 2, 3, 4, 5, 0, 1, 2), (0, 1) * 4 + (0,)):
                for name in ("signs", "first_signs", "sign_count", "choices", "fits", "fit_clash"):
                    self.check(getattr(signs, name), tree, marking)
            self.check(signs.apart_ways, tree, (0, 1) * 4 + (0,))
        markings = [tuple(number >> leaf & 1 for leaf in range(9)) for number in range(512)]
        self.check(signs.joint_tree, 9, tuple((markings + markings)[:600]))
        # These do not cross, so all pairs are looked at.
        self.check(signs.joint_tree, 9, tuple(tuple(int(leaf in nest) for leaf in LOT) for nest in comb(9)[1]) * 75)

    def test_lines(self):
        rows = [TREES, BETWEEN, TREES[-1:], tuple(tree_of(9, ((leaf, 8), (3, 4))) for leaf in (5, 6, 7))]
        rows += [tuple(tree_of(9, ((leaf, leaf + 1),)) for leaf in range(8))]
        for trees in rows:
            self.check(lines.common_line, 9, trees)
            self.check(lines.bar, 9, trees)
            self.check(lines.bar_holds, 9, trees, lines.bar(9, trees))
        self.check(lines.nth_line, bush(9), 362879)
        self.check(lines.line_place, bush(9), LOT[::-1])

    def test_sides(self):
        dice = tree_of(9, ((1, 3, 8), (0, 5, 7), (2, 4, 6)))
        for tree in (*TREES, bush(9), dice):
            for line in (LOT, LOT[::-1], (4, 0, 8, 2, 6, 1, 5, 3, 7)):
                self.check(sides.untangled, tree, line)
                self.check(sides.least_crossings, tree, line)
            for other in (comb(9), bush(9), dice, TREES[0]):
                self.check(sides.facing, tree, other)

    def test_counts(self):
        for name in ("tree_count", "forked_count", "mean_pairs", "shape_count", "forked_shape_count", "kept_by_line",
                     "forked_kept_by_line"):
            self.check(getattr(counts, name), 200)
        self.check(counts.with_nest, 200, tuple(range(100)))
        self.check(counts.chance, 200, tuple(range(100)))
        self.check(counts.nth_forked, 9, 2027024)
        self.check(counts.forked_place, comb(9))
        self.check(counts.namings, bush(9))

    def test_moves_and_names(self):
        for tree in TREES:
            for other in TREES[::3]:
                self.check(moves.steps, tree, other)
                self.check(renames.renamings, tree, other)
            self.check(moves.turns, tree)
            self.check(renames.normal, tree)
            self.check(renames.renamings, tree, tree)
        self.check(renames.renamings, bush(7), bush(7))
        for row in ((comb(4), bush(4)) * 150, (comb(9), bush(9)) * 1500):
            self.check(moves.steps_error, row[0], row[1], row)
        for number in (0, 100, 500, 944):
            self.check(moves.row_of_turns, comb(6), counts.nth_forked(6, number))

    def test_boards_and_shells(self):
        value = (("rename", LOT[::-1]), ("split", (0, 1, 2)), ("merge", (0, 1, 2)), ("take", 4), ("put", (3,)), ("put", (3,))) * 2
        for kind in (boards.Board, boards.KeptBoard):
            board = kind(bush(9))
            self.check(lambda: [board.batch(value) for _ in range(41)])
            self.check(lambda: [board.undo() for _ in range(41)])
            for odd in ("x" * 3000, tuple(range(3000)), ((),) * 3000, list(range(3000)), 10 ** 399):
                for word in ("put", "take", "merge", "split", "rename", "batch", "fork", "parts", "at"):
                    self.check(getattr(board, word), odd)
                self.check(kind, odd)
                self.check(shells.Shell().say, odd)
        shell = shells.Shell()
        self.check(lambda: [shell.say(line) for line in ("new 9", "split 1 2", "undo", "parts 0 1 2 3 4 5 6 7 8", "tree") * 100])
        self.check(shell.say, "fork" + " 0" * 1498)

    def test_all_forked_webs_of_six_leaves(self):
        web = web_of(6, ((1, 2), (1, 2, 3), (1, 2, 3, 4)))
        words = fours.four_words(web)
        for given in ((), words, words * 20):
            self.check(fours.webs_with, 6, given)
            self.check(fours.other_web, web, given)
            self.check(fours.enough, web, given)


if __name__ == "__main__":
    unittest.main()
