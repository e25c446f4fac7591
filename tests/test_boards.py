"""N1 to N4, and A2 (h): boards."""

import copy
import inspect
import random
import unittest
from itertools import permutations

from forktold import errors
from forktold.boards import Board, KeptBoard
from forktold.nests import fork, parts
from forktold.texts import tree_text
from forktold.trees import bush, comb, tree_error, tree_of
from tests.board_model import Model, WORDS, outcome
from tests.reference import ODD, all_lots, all_trees, changed, mixed_tree, slow_is_lot, slow_tree_error

MIXED = random.Random(81)
SMALL = [tree for size in (1, 2, 3, 4) for tree in all_trees(size)]
SOME = SMALL[::3] + [mixed_tree(size, forked, MIXED) for size in (6, 9) for forked in (True, False)]
CLASSES = (Board, KeptBoard)


def state(board):
    """All that a board tells without a change."""
    trees = [board.at(version) for version in range(board.version + 1)]
    return repr((board.tree, board.version, board.news(), trees, str(board), len(board), list(board)))


def whole_state(board):
    """What a board tells, and what it would tell if all that was taken back were done again."""
    other, rows = board.copy(), [state(board)]
    while outcome(other.redo)[0] == "returns":
        rows.append(state(other))
    return rows


class Case(unittest.TestCase):
    def check_error(self, call, name, board=None, **kept):
        """That a call raises just this error, and that a board is then as it was."""
        before = None if board is None else whole_state(board)
        with self.assertRaises(errors.ForkError) as caught:
            call()
        self.assertEqual(type(caught.exception).__name__, name)
        self.assertEqual(repr(vars(caught.exception)), repr(kept))
        if board is not None:
            self.assertEqual(whole_state(board), before)


class Made(Case):
    def test_any_value(self):
        rows = [*ODD, *SMALL, bush(9), *(other for tree in SMALL[::4] for other in changed(tree))]
        for value in rows:
            before, error = copy.deepcopy(value), slow_tree_error(value)
            for kind in CLASSES:
                if error is None:
                    self.assertEqual(kind(value).tree, value)
                    self.assertEqual(kind(value=value).version, 0)
                else:
                    self.check_error(lambda: kind(value), "NotTree", error=error)
            self.assertEqual(repr(value), repr(before))

    def test_classes(self):
        self.assertTrue(issubclass(KeptBoard, Board))
        methods = {
            "fork": ["lot"], "parts": ["lot"], "put": ["lot"], "take": ["leaf"], "merge": ["lot"], "split": ["lot"],
            "rename": ["naming"], "batch": ["edits"], "undo": [], "redo": [], "at": ["version"], "news": [], "copy": [],
            "attempt": ["work"], "__init__": ["value"], "__len__": [], "__iter__": [], "__str__": [],
        }
        for kind in CLASSES:
            for name, arguments in methods.items():
                self.assertIn(name, vars(kind))
                parameters = list(inspect.signature(vars(kind)[name]).parameters.values())[1:]
                self.assertEqual([parameter.name for parameter in parameters], arguments)
                for parameter in parameters:
                    self.assertEqual((parameter.kind, parameter.default),
                                     (parameter.POSITIONAL_OR_KEYWORD, parameter.empty))
            for name in ("__getitem__", "__contains__", "__eq__", "tree", "version"):
                self.assertIn(name, vars(kind))

    def test_can_only_be_read(self):
        for kind in CLASSES:
            board = kind(comb(4))
            for name in ("tree", "version"):
                with self.assertRaises(AttributeError):
                    setattr(board, name, getattr(board, name))


class Looking(Case):
    def test_as_the_functions_tell(self):
        for tree in SOME:
            for kind in CLASSES:
                board = kind(tree)
                self.assertEqual((board.tree, board.version, board.news()), (tree, 0, ((), ())))
                self.assertEqual((len(board), str(board)), (tree[0], tree_text(tree)))
                self.assertEqual((list(board), tuple(board)), (list(tree[1]), tree[1]))
                self.assertEqual([board[place] for place in range(len(tree[1]))], list(tree[1]))
                for lot in all_lots(min(tree[0], 6), 1):
                    self.assertEqual(board.fork(lot), fork(tree, lot))
                    self.assertIs(lot in board, lot in tree[1])
                for nest in tree[1]:
                    self.assertEqual(board.parts(nest), parts(tree, nest))
                    self.assertEqual(board.parts(lot=nest), parts(tree, nest))
                    self.assertEqual(board.fork(lot=nest), nest)

    def test_any_value(self):
        for tree in ((1, ()), bush(2), comb(3), comb(4), bush(9)):
            rows = [*ODD, *all_lots(4), *(other for nest in tree[1][:2] for other in changed(nest)), -1, 2, 3, 8, 9]
            for kind in CLASSES:
                board = kind(tree)
                for value in rows:
                    with self.subTest(tree=tree, value=repr(value)):
                        self.check_value(board, tree, value)

    def check_value(self, board, tree, value):
        nest = slow_is_lot(tree[0], value) and value in tree[1]
        self.assertIs(value in board, nest)
        if nest:
            self.assertEqual(board.parts(value), parts(tree, value))
        else:
            self.check_error(lambda: board.parts(value), "NotNest", board, lot=value)
        if slow_is_lot(tree[0], value) and value != ():
            self.assertEqual(board.fork(value), fork(tree, value))
        else:
            self.check_error(lambda: board.fork(value), "NotLot", board, value=value)
        if type(value) is int and value in range(len(tree[1])):
            self.assertEqual(board[value], tree[1][value])
        else:
            self.check_error(lambda: board[value], "NotNest", board, lot=value)

    def test_places_that_lists_would_take(self):
        board = Board(comb(4))
        for index in (-1, -3, 3, True, False, slice(0, 1), "0", 10 ** 399, None):
            self.check_error(lambda: board[index], "NotNest", board, lot=index)

    def test_iterating_goes_on_as_it_began(self):
        for kind in CLASSES:
            board = kind(comb(4))
            rows = iter(board)
            first = next(rows)
            board.rename((3, 2, 1, 0))
            self.assertEqual([first, *rows], list(comb(4)[1]))
            self.assertEqual(list(board), [(2, 3), (1, 2, 3), (0, 1, 2, 3)])

    def test_equal(self):
        class Own(KeptBoard):
            pass

        for tree in SMALL[:12]:
            for other in SMALL[:12]:
                for kind in (*CLASSES, Own):
                    for further in (*CLASSES, Own):
                        self.assertIs(kind(tree) == further(other), tree == other)
                        self.assertIs(kind(tree) != further(other), tree != other)
        edited = Board(bush(4))
        edited.split((0, 1))
        self.assertTrue(edited == Board(tree_of(4, ((0, 1),))) and not edited == Board(bush(4)))
        for value in [*ODD, comb(4), str(Board(comb(4)))]:
            self.assertIs(Board(comb(4)) == value, False)
            self.assertIs(Board(comb(4)) != value, True)
            self.assertIs(value == KeptBoard(comb(4)), False)


def arguments(tree):
    """Values that an edit of a tree may be passed, of which some are right for it."""
    size, nests = tree
    return [
        MIXED.choice(nests) if nests else (), tuple(sorted(MIXED.sample(range(size), MIXED.randint(1, size)))),
        tuple(MIXED.sample(range(size), size)), MIXED.randrange(size), MIXED.choice(ODD), tuple(range(size))[::-1], size,
    ]


def mixed_batch(tree):
    many = MIXED.choice((0, 1, 1, 2, 2, 3, 5, 12, 13))
    rows = tuple((MIXED.choice(WORDS), MIXED.choice(arguments(tree))) for _ in range(many))
    return MIXED.choice((rows, rows, rows, rows, list(rows), rows + ((MIXED.choice(WORDS),),), rows + (("undo", None),)))


def right_argument(tree, word):
    """A value that is right for an edit of a tree, if there is one."""
    size, nests = tree
    told = {
        "put": [lot for lot in all_lots(min(size, 6), 1) if size < 9], "take": list(range(size)) if size > 1 else [],
        "merge": list(nests[:-1]), "split": list(nests) + all_lots(min(size, 4), 2),
        "rename": [tuple(MIXED.sample(range(size), size))],
    }
    return MIXED.choice(told[word]) if told[word] else None


def mixed_edit(tree):
    """A word of an edit and an argument, more often right ones than not."""
    word = MIXED.choice((*WORDS, "rename", "split", "batch"))
    if word == "batch":
        return word, mixed_batch(tree)
    return word, right_argument(tree, word) if MIXED.random() < 0.7 else MIXED.choice(arguments(tree))


class Editing(Case):
    def check_same(self, board, model):
        self.assertEqual((board.tree, board.version, board.news()), (model.tree, model.version, model.told))
        self.assertIsNone(tree_error(board.tree))
        self.assertEqual([board.at(version) for version in range(board.version + 1)], model.trees[:model.version + 1])
        self.assertEqual((str(board), len(board), list(board)), (tree_text(model.tree), model.tree[0], list(model.tree[1])))

    def check_step(self, board, model):
        """Let a board and a model do the same, whatever it is."""
        kind = MIXED.random()
        if kind < 0.6:
            word, argument = mixed_edit(model.tree)
            before = copy.deepcopy(argument)
            mine, theirs = outcome(lambda: getattr(board, word)(argument)), outcome(lambda: model.edit(word, argument))
            self.assertEqual(repr(argument), repr(before))
        elif kind < 0.8:
            mine, theirs = outcome(board.undo), outcome(model.undo)
        elif kind < 0.95:
            mine, theirs = outcome(board.redo), outcome(model.redo)
        else:
            value = MIXED.choice([*ODD, *range(-1, 45)])
            mine, theirs = outcome(lambda: board.at(value)), outcome(lambda: model.at(value))
        self.assertEqual(repr(mine), repr(theirs))
        self.check_same(board, model)

    def test_against_model(self):
        for at in range(160):
            kept = at % 2 == 1
            tree = MIXED.choice(SOME)
            board, model = (KeptBoard if kept else Board)(tree), Model(tree, kept)
            for _ in range(60):
                self.check_step(board, model)
            if at % 8 < 2:
                again, other = board.copy(), model.copy()
                self.assertIs(type(again), type(board))
                for _ in range(25):
                    self.check_step(again, other)
                    self.check_step(board, model)
                    self.check_same(again, other)

    def test_each_edit_with_any_value(self):
        for tree in ((1, ()), bush(2), comb(3), tree_of(4, ((0, 1), (2, 3))), bush(9)):
            size = min(tree[0], 4)
            rows = [*ODD, *all_lots(size), *permutations(range(size)), *range(-1, 10)]
            rows += [*(other for nest in tree[1][:1] for other in changed(nest)), *changed(tuple(range(size)))]
            for kept, kind in enumerate(CLASSES):
                for word in (*WORDS, "batch"):
                    for value in rows:
                        self.check_edit(kind(tree), Model(tree, bool(kept)), word, value)

    def check_edit(self, board, model, word, value):
        with self.subTest(tree=model.tree, word=word, value=repr(value)):
            mine, theirs = outcome(lambda: getattr(board, word)(value)), outcome(lambda: model.edit(word, value))
            self.assertEqual(repr(mine), repr(theirs))
            self.check_same(board, model)

    def test_by_names(self):
        board = Board(comb(4))
        self.assertEqual([board.put(lot=(0, 1)), board.take(leaf=4), board.merge(lot=(0, 1)), board.split(lot=(0, 1))],
                         [1, 2, 3, 4])
        self.assertEqual([board.rename(naming=(0, 1, 2, 3)), board.batch(edits=()), board.at(version=0)], [5, 6, comb(4)])
        self.assertEqual(board.attempt(work=lambda given: given.version), 6)
        self.assertEqual(board.tree, comb(4))

    def test_ends_of_sizes(self):
        for leaf in (0, 1, -1, None, "0"):
            board = Board((1, ()))
            self.check_error(lambda: board.take(leaf), "NotLeaf", board, value=leaf)
        nine = Board(bush(9))
        self.check_error(lambda: nine.put((0,)), "TooMany", nine, limit=9)
        self.check_error(lambda: nine.put(()), "NotLot", nine, value=())
        self.check_error(lambda: nine.put((9,)), "NotLot", nine, value=(9,))
        one = Board((1, ()))
        self.assertEqual([one.put((0,)), one.tree, one.take(0), one.tree, one.rename((0,))], [1, bush(2), 2, (1, ()), 3])
        self.check_error(lambda: one.merge((0,)), "NotNest", one, lot=(0,))
        self.check_error(lambda: one.split((0,)), "NotLot", one, value=(0,))
        two = Board(bush(2))
        self.check_error(lambda: two.merge((0, 1)), "NotNest", two, lot=(0, 1))
        self.assertEqual([two.split((0, 1)), two.version, two.tree], [1, 1, bush(2)])
        self.check_error(lambda: Board(comb(4)).split((1, 2)), "Cross", pair=((1, 2), (0, 1)))


class Batches(Case):
    def test_bad_ones(self):
        board = Board(comb(4))
        rows = [*ODD, ("put", (0,)), (("put",),), (("put", (0,), 0),), (["put", (0,)],), [("put", (0,))], (("batch", ()),)]
        rows += [(("undo", 0),), (("PUT", (0,)),), ((None, 0),), (((), 0),), (([], 0),), (("", 0),), (("put", (0,)), None)]
        rows += [(("take", 99), ("no", 0)), (("put", (0,)),) * 13, "put", {"put": (0,)}, (("redo", 0),), ((b"put", (0,)),)]
        for value in rows:
            if value != ():
                self.check_error(lambda: board.batch(value), "BadBatch", board)

    def test_rejected_at_the_first_place(self):
        board = Board(comb(4))
        for value, index in (
            ((("take", 9),), 0), ((("take", 3), ("take", 3)), 1), ((("put", None), ("put", None)), 0),
            ((("split", (2, 3)),), 0), ((("merge", (0, 1)), ("merge", (0, 1))), 1), ((("rename", [0]),), 0),
            (tuple(("put", (0,)) for _ in range(6)), 5), ((("rename", (1, 0, 2, 3)),) * 11 + (("take", "0"),), 11),
        ):
            self.check_error(lambda: board.batch(value), "Rejected", board, index=index)

    def test_right_ones_are_one_edit(self):
        board = Board(comb(4))
        self.assertEqual([board.batch(()), board.news(), board.tree], [1, ((), ()), comb(4)])
        value = (("merge", (0, 1)), ("split", (1, 2)), ("rename", (3, 2, 1, 0)), ("put", (1, 2)), ("take", 0))
        self.assertEqual(board.batch(value), 2)
        self.assertEqual(board.tree, (4, ((0, 1), (0, 1, 3), (0, 1, 2, 3))))
        self.assertEqual([board.version, board.undo(), board.tree], [2, 1, comb(4)])
        self.assertEqual([board.batch((("put", (0,)), ("take", 4)) * 6), board.tree, board.news()], [2, comb(4), ((), ())])
        self.assertEqual(board.batch((("rename", (1, 0, 2, 3)),) * 12), 3)


class Versions(Case):
    def full(self, kind):
        board = kind(comb(4))
        for version in range(1, 41):
            self.assertEqual(board.rename((1, 0, 2, 3)), version)
        return board

    def test_too_many_edits(self):
        for kind in CLASSES:
            board = self.full(kind)
            for word, value in (("rename", (0, 1, 2, 3)), ("split", (0, 1)), ("batch", ()), ("batch", (("split", (0, 1)),))):
                self.check_error(lambda: getattr(board, word)(value), "TooManyEdits", board)
            self.check_error(lambda: board.put(()), "NotLot", board, value=())
            self.check_error(lambda: board.take(4), "NotLeaf", board, value=4)
            self.check_error(lambda: board.merge((0, 2)), "NotNest", board, lot=(0, 2))
            self.check_error(lambda: board.split((2, 3)), "Cross", board, pair=((2, 3), (0, 1, 2)))
            self.check_error(lambda: board.rename(()), "BadMap", board)
            self.check_error(lambda: board.batch(None), "BadBatch", board)
            self.check_error(lambda: board.batch((("take", 4),)), "Rejected", board, index=0)
            self.assertEqual([board.undo(), board.redo(), board.undo(), board.rename((0, 1, 2, 3))], [39, 40, 39, 40])
            self.check_error(lambda: board.rename((0, 1, 2, 3)), "TooManyEdits", board)
        board = self.full(Board)
        for word, value in (("put", (0,)), ("take", 0), ("merge", (0, 1))):
            self.check_error(lambda: getattr(board, word)(value), "TooManyEdits", board)

    def test_forty_edits_and_back(self):
        board = self.full(Board)
        told = [board.at(version) for version in range(41)]
        for version in range(39, -1, -1):
            self.assertEqual(board.undo(), version)
            self.assertEqual(board.tree, told[version])
        self.check_error(board.undo, "NothingToUndo", board)
        for version in range(1, 41):
            self.assertEqual(board.redo(), version)
            self.assertEqual(board.tree, told[version])
        self.check_error(board.redo, "NothingToRedo", board)

    def test_nothing_to_take_back(self):
        for kind in CLASSES:
            board = kind(comb(3))
            self.check_error(board.undo, "NothingToUndo", board)
            self.check_error(board.redo, "NothingToRedo", board)
            board.rename((1, 0, 2))
            self.check_error(board.redo, "NothingToRedo", board)
            self.assertEqual(board.undo(), 0)
            self.check_error(board.undo, "NothingToUndo", board)
            self.assertEqual(board.rename((0, 2, 1)), 1)
            self.check_error(board.redo, "NothingToRedo", board)

    def test_at(self):
        board = Board(bush(4))
        board.split((0, 1))
        board.split((0, 1, 2))
        board.undo()
        for version, tree in ((0, bush(4)), (1, tree_of(4, ((0, 1),)))):
            self.assertEqual(board.at(version), tree)
        for value in [*ODD, 2, 3, -1, 41]:
            if not (type(value) is int and value in (0, 1)):
                self.check_error(lambda: board.at(value), "NoVersion", board, given=value)

    def test_news(self):
        board = Board(comb(4))
        self.assertEqual(board.news(), ((), ()))
        board.put((0, 1))
        self.assertEqual(board.news(), (((0, 1, 2), (0, 1, 2, 3)), ((0, 1, 4), (0, 1, 2, 4), (0, 1, 2, 3, 4))))
        board.undo()
        self.assertEqual(board.news(), (((0, 1, 4), (0, 1, 2, 4), (0, 1, 2, 3, 4)), ((0, 1, 2), (0, 1, 2, 3))))
        board.redo()
        self.assertEqual(board.news(), (((0, 1, 2), (0, 1, 2, 3)), ((0, 1, 4), (0, 1, 2, 4), (0, 1, 2, 3, 4))))
        board.split((0, 1))
        self.assertEqual(board.news(), ((), ()))

    def test_taken_back_and_as_it_was(self):
        for _ in range(40):
            board = MIXED.choice(CLASSES)(MIXED.choice(SOME))
            for _ in range(MIXED.randrange(8)):
                outcome(lambda: board.rename(tuple(MIXED.sample(range(len(board)), len(board)))))
            before = [board.tree, board.version, [board.at(version) for version in range(board.version + 1)]]
            done = 0
            for _ in range(10):
                word, value = mixed_edit(board.tree)
                done += outcome(lambda: getattr(board, word)(value))[0] == "returns"
            for _ in range(done):
                board.undo()
            self.assertEqual([board.tree, board.version, [board.at(version) for version in range(board.version + 1)]], before)


class Copies(Case):
    def test_each_goes_its_own_way(self):
        for kind in CLASSES:
            board = kind(comb(4))
            for naming in permutations(range(4)):
                if board.version < 5:
                    board.rename(naming)
            board.undo()
            board.undo()
            other = board.copy()
            self.assertIs(type(other), kind)
            self.assertEqual(whole_state(other), whole_state(board))
            before = whole_state(board)
            other.redo()
            other.rename((3, 2, 1, 0))
            self.assertEqual(whole_state(board), before)
            before = whole_state(other)
            board.undo()
            board.undo()
            board.rename((2, 3, 1, 0))
            self.assertEqual(whole_state(other), before)

    def test_copy_of_a_kept_board_stays_one(self):
        board = KeptBoard(comb(4)).copy().copy()
        self.check_error(lambda: board.merge((0, 1)), "Changed", board, lot=(0, 1, 2, 3))


class Attempts(Case):
    def begun(self, kind):
        board = kind(comb(4))
        for naming in ((1, 0, 2, 3), (0, 2, 1, 3), (3, 1, 2, 0)):
            board.rename(naming)
        board.undo()
        return board

    def test_result(self):
        for kind in CLASSES:
            board = self.begun(kind)
            given = []
            self.assertEqual(board.attempt(lambda one: given.append(one) or one.rename((0, 1, 3, 2))), 3)
            self.assertIs(given[0], board)
            self.assertEqual(board.version, 3)
            self.check_error(board.redo, "NothingToRedo", board)
            kept = []
            self.assertIs(board.attempt(lambda one: kept), kept)
            self.assertIsNone(board.attempt(lambda one: None))

    def test_errors_of_the_package(self):
        for kind in CLASSES:
            for error in (errors.Unfit(), errors.ForkError(), errors.Clash("paper"), errors.Rejected(3)):
                board = self.begun(kind)
                before = whole_state(board)

                def work(one):
                    one.undo()
                    one.rename((3, 2, 1, 0))
                    one.batch(())
                    raise error

                with self.assertRaises(errors.ForkError) as caught:
                    board.attempt(work)
                self.assertIs(caught.exception, error)
                self.assertEqual(whole_state(board), before)

    def test_errors_of_the_board_itself(self):
        for kind in CLASSES:
            board = self.begun(kind)
            self.check_error(lambda: board.attempt(lambda one: [one.undo(), one.undo(), one.undo()]), "NothingToUndo", board)
            self.check_error(lambda: board.attempt(lambda one: [one.redo(), one.take(9)]), "NotLeaf", board, value=9)
            self.check_error(lambda: board.attempt(lambda one: one.attempt(lambda two: [two.redo(), two.at(4)])),
                             "NoVersion", board, given=4)

    def test_other_errors_leave_what_was_done(self):
        for error in (ValueError("x"), KeyError("x"), RuntimeError("x"), KeyboardInterrupt()):
            board = self.begun(Board)

            def work(one):
                one.undo()
                one.split((0, 1, 2))
                raise error

            with self.assertRaises(type(error)) as caught:
                board.attempt(work)
            self.assertIs(caught.exception, error)
            self.assertEqual(board.version, 2)
            self.check_error(board.redo, "NothingToRedo", board)

    def test_works_within_works(self):
        for kind in CLASSES:
            board = self.begun(kind)

            def inner(one):
                one.rename((3, 2, 1, 0))
                one.rename((0, 1))

            def outer(one):
                one.redo()
                told = whole_state(one)
                self.assertEqual(outcome(lambda: one.attempt(inner)), ("BadMap", {}))
                self.assertEqual(whole_state(one), told)
                return one.rename((1, 0, 2, 3))

            self.assertEqual(board.attempt(outer), 4)
            before = whole_state(board)
            self.check_error(lambda: board.attempt(lambda one: [outer, one.undo(), one.attempt(inner)]), "BadMap", board)
            self.assertEqual(whole_state(board), before)

    def test_no_edit(self):
        board = Board(comb(4))
        for _ in range(41):
            board.attempt(lambda one: None)
        self.assertEqual([board.version, board.news()], [0, ((), ())])


class Kept(Case):
    def test_changed(self):
        board = KeptBoard(comb(4))
        everyone = (0, 1, 2, 3)
        self.check_error(lambda: board.put((0,)), "Changed", board, lot=(0, 1, 2, 3, 4))
        self.check_error(lambda: board.take(0), "Changed", board, lot=(0, 1, 2))
        self.check_error(lambda: board.merge((0, 1)), "Changed", board, lot=everyone)
        self.check_error(lambda: board.batch((("merge", (0, 1)),)), "Changed", board, lot=everyone)
        self.check_error(lambda: KeptBoard(bush(4)).split((0, 1)), "Changed", lot=everyone)
        self.check_error(lambda: board.put(()), "NotLot", board, value=())
        self.check_error(lambda: KeptBoard(bush(9)).put((0,)), "TooMany", limit=9)
        self.check_error(lambda: board.split((2, 3)), "Cross", board, pair=((2, 3), (0, 1, 2)))
        self.assertEqual([board.split((0, 1)), board.rename((3, 2, 1, 0)), board.batch(())], [1, 2, 3])
        self.assertEqual(board.batch((("merge", (2, 3)), ("split", (1, 2)))), 4)
        self.assertEqual(board.batch((("take", 3), ("put", (1, 2)))), 5)
        self.assertEqual([board.undo(), board.undo(), board.redo()], [4, 3, 4])

    def test_ahead_of_too_many_edits(self):
        board = KeptBoard(comb(4))
        for _ in range(40):
            board.batch(())
        self.check_error(lambda: board.merge((0, 1)), "Changed", board, lot=(0, 1, 2, 3))
        self.check_error(lambda: board.put((0, 1)), "Changed", board, lot=(0, 1, 2, 3, 4))
        self.check_error(lambda: board.batch((("take", 0),)), "Changed", board, lot=(0, 1, 2))
        self.check_error(lambda: board.take(9), "NotLeaf", board, value=9)
        self.check_error(lambda: board.batch((("take", 9),)), "Rejected", board, index=0)
        self.check_error(lambda: board.split((0, 1)), "TooManyEdits", board)


if __name__ == "__main__":
    unittest.main()
