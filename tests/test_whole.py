"""A2 over all modules: what is told in several ways is told alike, by boards and functions."""

import random
import unittest

from forktold.agree import distance
from forktold.boards import Board, KeptBoard
from forktold.counts import finer_count, forked_place, namings, nth_forked
from forktold.errors import ForkError
from forktold.lines import bar, common_line, line_count, line_place, nth_line
from forktold.lots import crossing
from forktold.moves import cut_and_put, merged, put_in, split, steps, take_out, turns
from forktold.nearer import nearer_words, tree_of_words
from forktold.nests import above, finer, fork, is_forked, least_leaves, parts
from forktold.renames import normal, renamed, renamings, same_shape
from forktold.roots import rooted, unrooted, web_of_tree
from forktold.several import differing, differs, in_most, spread
from forktold.shells import Shell
from forktold.sides import facing
from forktold.signs import apart_ways, fewest_changes, signs, signs_holds
from forktold.texts import parse_tree, tree_text
from forktold.trees import bush, tree_error, tree_of
from tests.board_model import outcome
from tests.reference import all_trees, mixed_tree

MIXED = random.Random(101)
TREES = [tree for size in (1, 2, 3) for tree in all_trees(size)] + MIXED.sample(all_trees(4), 8)
TREES += [mixed_tree(size, forked, MIXED) for size in (5, 6, 7, 8, 9) for forked in (True, False)]


def edited(tree, many):
    """A board behind so many edits or fewer, and its trees as the functions of other modules tell them."""
    board, trees = Board(tree), [tree]
    for _ in range(many):
        size, nests = trees[-1]
        lot = tuple(sorted(MIXED.sample(range(size), MIXED.randint(1, size))))
        word, value, move = MIXED.choice((
            ("put", lot, put_in), ("take", MIXED.randrange(size), take_out), ("merge", MIXED.choice(nests or ((),)), merged),
            ("split", lot, split), ("rename", tuple(MIXED.sample(range(size), size)), renamed),
        ))
        if outcome(lambda: getattr(board, word)(value)) == ("returns", len(trees)):
            trees.append(move(trees[-1], value))
    return board, trees


class Boards(unittest.TestCase):
    def test_as_the_functions_tell(self):
        for tree in TREES:
            for kind in (Board, KeptBoard):
                board = kind(tree)
                self.assertEqual(str(board), tree_text(board.tree))
                self.assertEqual(parse_tree(str(board)), board.tree)
                self.assertEqual(tuple(tuple(part[0] for part in board.parts(nest)) for nest in board), least_leaves(tree))
                for nest in board:
                    self.assertEqual(board.parts(nest), parts(tree, nest))
                    self.assertEqual([lot for lot in board if lot != nest and board.fork(lot) == lot and set(nest) < set(lot)],
                                     list(above(tree, nest)))
                    self.assertEqual(board.fork((nest[0], nest[-1])), fork(tree, (nest[0], nest[-1])))

    def test_edits_are_the_moves(self):
        for tree in TREES:
            board, trees = edited(tree, 25)
            self.assertEqual([board.at(version) for version in range(board.version + 1)], trees)
            if len(trees) > 1 and trees[-1][0] == trees[-2][0]:
                self.assertEqual(board.news(), differing(trees[-2], trees[-1]))
            before = (board.tree, board.version)
            for version in range(board.version, 0, -1):
                self.assertEqual(board.undo(), version - 1)
                self.assertEqual(board.tree, trees[version - 1])
            for _ in trees[1:]:
                board.redo()
            self.assertEqual((board.tree, board.version), before)

    def test_kept_boards_keep_the_shape(self):
        for tree in TREES:
            board = KeptBoard(tree)
            for nest in tree[1][:-1]:
                for turn in tree[1]:
                    try:
                        board.batch((("merge", nest), ("split", tuple(sorted({*turn} - {nest[0]})))))
                    except ForkError:
                        pass
                    self.assertTrue(same_shape(board.tree, tree))
            self.assertEqual(normal(board.tree), normal(tree))

    def test_shells_tell_what_boards_tell(self):
        for tree in TREES:
            shell, board = Shell(), Board(bush(tree[0]))
            self.assertEqual(shell.say(f"new {tree[0]}"), "ok")
            for nest in tree[1]:
                self.assertEqual(shell.say("split " + " ".join(map(str, nest))), f"version {board.split(nest)}")
            self.assertEqual(shell.say("tree"), str(board))
            self.assertEqual(board.tree, tree)
            self.assertEqual(shell.say("nests"), str(len(tree[1])))
            self.assertEqual(shell.say("forked"), "yes" if is_forked(tree) else "no")


class Ways(unittest.TestCase):
    def test_a_tree_is_told_in_several_ways(self):
        for tree in TREES:
            self.assertEqual(tree_of(tree[0], tree[1]), tree)
            self.assertEqual(parse_tree(tree_text(tree)), tree)
            self.assertEqual(tree_of_words(tree[0], nearer_words(tree)), tree)
            self.assertEqual(line_place(tree, nth_line(tree, line_count(tree) - 1)), line_count(tree) - 1)
            if tree[0] < 9:
                self.assertEqual(rooted(web_of_tree(tree), 0), tree)
            if is_forked(tree):
                self.assertEqual(nth_forked(tree[0], forked_place(tree)), tree)
            self.assertFalse(any(crossing(nest, other) for nest in tree[1] for other in tree[1]))
            self.assertEqual(is_forked(tree), len(tree[1]) == tree[0] - 1)
            self.assertEqual(is_forked(tree), finer_count(tree) == 1)

    def test_two_trees(self):
        for size in (4, 6, 9):
            for _ in range(12):
                tree, other = mixed_tree(size, True, MIXED), mixed_tree(size, MIXED.random() < 0.5, MIXED)
                self.assertEqual(len(steps(tree, other)), differs(tree, other) + 1)
                self.assertEqual(facing(tree, other) == 0, common_line(size, (tree, other)) is not None)
                self.assertEqual(bar(size, (tree, other)) is None, common_line(size, (tree, other)) is not None)
                self.assertEqual(distance(tree, other) == 0, tree == other)
                self.assertLessEqual(spread((tree, other), in_most((tree, other))), differs(tree, other))

    def test_signs_along_all_trees(self):
        for tree in TREES:
            marking = tuple(MIXED.choices((0, 1), k=tree[0]))
            self.assertEqual(len(apart_ways(tree, marking)), fewest_changes(tree, marking))
            self.assertTrue(signs_holds(tree, marking, signs(tree, marking)))

    def test_turns_and_cuts(self):
        for tree in [tree for tree in TREES if is_forked(tree) and tree[0] > 2]:
            for turn in turns(tree):
                self.assertIsNone(tree_error(turn))
                self.assertEqual(differs(tree, turn), 2)
            # A turn is made by a cut of a part, too, that is put back beside another one.
            made = {cut_and_put(tree, part, place) for nest in tree[1] for part in parts(tree, nest)
                    for place in [*((leaf,) for leaf in range(tree[0]) if leaf not in part), *tree[1]]
                    if not set(part) & set(place)}
            self.assertTrue(set(turns(tree)) <= made)

    def test_new_names(self):
        for tree in TREES:
            naming = tuple(MIXED.sample(range(tree[0]), tree[0]))
            other = renamed(tree, naming)
            self.assertEqual(namings(tree), namings(other))
            self.assertTrue(same_shape(tree, other) and normal(tree) == normal(other))
            self.assertEqual(line_count(tree), line_count(other))
            if tree[0] < 7:
                self.assertIn(naming, renamings(tree, other))
            self.assertEqual(finer(other, bush(tree[0])), True)
            self.assertLessEqual(len(unrooted(other)[1]), len(other[1]))


if __name__ == "__main__":
    unittest.main()
