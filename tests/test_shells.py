"""N5: shells."""

import copy
import inspect
import random
import re
import unittest

from forktold.errors import NotLot, NotNest
from forktold.shells import Shell
from forktold.texts import tree_text
from tests.board_model import Model, outcome
from tests.reference import ODD, slow_is_lot, slow_parts, wide_nests

MIXED = random.Random(91)
NUMBER = " (0|[1-9][0-9]{0,30})"
LOT = f"({NUMBER})+"
FORMS = {
    "put": LOT, "merge": LOT, "split": LOT, "rename": LOT, "fork": LOT, "parts": LOT,
    "take": NUMBER, "undo": "", "redo": "", "tree": "", "nests": "", "forked": "",
}


def leaves_text(lot):
    return " ".join(map(str, lot))


class SlowShell:
    """A shell over the model of a board, its lines read by patterns."""

    def __init__(self):
        self.model = None

    def say(self, line):
        if type(line) is not str or not re.fullmatch("[^ ]+( [^ ]+)*", line):
            return "what"
        if re.fullmatch("new [1-9]", line):
            size = int(line[4:])
            self.model = Model((size, (tuple(range(size)),) if size > 1 else ()))
            return "ok"
        word, _, rest = line.partition(" ")
        if word not in FORMS:
            return "what"
        if self.model is None:
            return "no board"
        if not re.fullmatch(word + FORMS[word], line):
            return "what"
        name, told = outcome(lambda: self.told(word, tuple(map(int, rest.split()))))
        return told if name == "returns" else "no " + name

    def told(self, word, numbers):
        tree = self.model.tree
        if word in ("put", "merge", "split", "rename"):
            return f"version {self.model.edit(word, numbers)}"
        if word == "take":
            return f"version {self.model.edit(word, numbers[0])}"
        if word in ("undo", "redo"):
            return f"version {getattr(self.model, word)()}"
        if word == "tree":
            return tree_text(tree)
        if word == "nests":
            return str(len(tree[1]))
        if word == "forked":
            return "no" if wide_nests(tree) else "yes"
        return self.asked(word, numbers, tree)

    def asked(self, word, numbers, tree):
        if word == "fork":
            if not slow_is_lot(tree[0], numbers):
                raise NotLot(numbers)
            around = [lot for lot in [*((leaf,) for leaf in range(tree[0])), *tree[1]] if set(numbers) <= set(lot)]
            return leaves_text(min(around, key=len))
        if numbers not in tree[1]:
            raise NotNest(numbers)
        return " / ".join(map(leaves_text, slow_parts(tree, numbers)))


def mixed_lot(size):
    leaves = MIXED.sample(range(size), MIXED.randint(1, size))
    return leaves_text(sorted(leaves) if MIXED.random() < 0.9 else leaves)


def mixed_line(tree):
    """A line that is often right for a tree."""
    size, nests = tree
    word = MIXED.choice((*FORMS, "put", "split", "split", "rename", "undo", "redo", "new"))
    if word == "new":
        return MIXED.choice(("new 5", "new", "new 0", "new 10", "new x", "new 4 4", "new 04"))
    if word == "take":
        return f"take {MIXED.randrange(size + 1)}"
    if word == "rename":
        return "rename " + leaves_text(MIXED.sample(range(size), size))
    if FORMS[word] == LOT:
        nest = leaves_text(MIXED.choice(nests)) if nests else "0"
        return f"{word} {nest if MIXED.random() < 0.4 else mixed_lot(size)}"
    return word


class Lines(unittest.TestCase):
    def test_against_slow_shell(self):
        answers = set()
        for _ in range(60):
            shell, slow = Shell(), SlowShell()
            for line in (f"new {MIXED.randint(1, 9)}", *[None] * 80):
                if line is None:
                    line = mixed_line(slow.model.tree)
                if MIXED.random() < 0.05:
                    line = MIXED.choice((line + " ", " " + line, line + "  0", line + " 00", line + " x", line.upper()))
                answer = shell.say(line)
                self.assertEqual(answer, slow.say(line), line)
                answers.add(answer)
                if slow.model is None:
                    self.assertEqual([shell.say("new 6"), slow.say("new 6")], ["ok", "ok"])
        for name in ("NotLot", "NotLeaf", "NotNest", "Cross", "NothingToUndo", "NothingToRedo", "TooMany"):
            self.assertIn("no " + name, answers)

    def test_each_word(self):
        shell = Shell()
        told = (
            ("new 4", "ok"), ("tree", "(0 1 2 3)"), ("nests", "1"), ("forked", "no"), ("split 0 1", "version 1"),
            ("split 2 3", "version 2"), ("tree", "((0 1) (2 3))"), ("forked", "yes"), ("nests", "3"), ("fork 0", "0"),
            ("fork 0 1", "0 1"), ("fork 1 2", "0 1 2 3"), ("parts 0 1 2 3", "0 1 / 2 3"), ("parts 2 3", "2 / 3"),
            ("put 0 1", "version 3"), ("tree", "(((0 1) 4) (2 3))"), ("parts 0 1 4", "0 1 / 4"), ("take 1", "version 4"),
            ("tree", "((0 3) (1 2))"), ("merge 0 3", "version 5"), ("tree", "(0 (1 2) 3)"),
            ("rename 3 2 1 0", "version 6"), ("tree", "(0 (1 2) 3)"), ("rename 1 0 2 3", "version 7"),
            ("tree", "((0 2) 1 3)"), ("undo", "version 6"), ("redo", "version 7"), ("redo", "no NothingToRedo"),
            ("merge 1 2", "no NotNest"), ("merge 0 1 2 3", "no NotNest"), ("split 0", "no NotLot"), ("put 1 0", "no NotLot"),
            ("split 0 1", "no Cross"), ("rename 0 1 2", "no BadMap"), ("rename 0 0 1 2", "no BadMap"),
            ("take 4", "no NotLeaf"), ("parts 0", "no NotNest"), ("fork 4", "no NotLot"), ("fork 0 0", "no NotLot"),
            ("put " + "9" * 31, "no NotLot"), ("take " + "9" * 31, "no NotLeaf"), ("put " + "1" * 32, "what"),
            ("new 9", "ok"), ("put 0", "no TooMany"), ("undo", "no NothingToUndo"), ("new 1", "ok"), ("tree", "0"),
            ("nests", "0"), ("forked", "yes"), ("take 0", "no NotLeaf"), ("fork 0", "0"), ("put 0", "version 1"),
            ("tree", "(0 1)"), ("new 2", "ok"), ("redo", "no NothingToRedo"), ("tree", "(0 1)"),
        )
        for line, answer in told:
            self.assertEqual(shell.say(line), answer, line)

    def test_forty_edits(self):
        shell = Shell()
        shell.say("new 3")
        for version in range(1, 41):
            self.assertEqual(shell.say("rename 0 1 2"), f"version {version}")
        self.assertEqual([shell.say("rename 0 1 2"), shell.say("rename 0 1")], ["no TooManyEdits", "no BadMap"])
        self.assertEqual([shell.say("undo"), shell.say("rename 2 1 0")], ["version 39", "version 40"])

    def test_ahead_of_the_first_board(self):
        shell = Shell()
        for word in FORMS:
            for rest in ("", " 0", " 0 1", " x", " 00", " " + "9" * 40, " /", " new"):
                self.assertEqual(shell.say(word + rest), "no board")
            for line in (word + " ", " " + word, word + "  0", word.upper(), word + "\n", word + "s"):
                self.assertEqual(shell.say(line), "what", line)
        for line in ("new", "new 0", "new 10", "new 00", "new 04", "new 4 ", "new  4", "new 4 4", "new x", "new -1", "old"):
            self.assertEqual(shell.say(line), "what", line)
            self.assertEqual(shell.say("tree"), "no board")
        self.assertEqual([shell.say("new 3"), shell.say("tree")], ["ok", "(0 1 2)"])

    def test_no_lines(self):
        shell = Shell()
        self.assertEqual(shell.say("new 4"), "ok")
        rows = ["", " ", "  ", "tree ", " tree", "Tree", "tree 0", "nests 1", "forked 0", "undo 1", "redo redo", "put", "take",
                "take 1 2", "take 01", "merge", "split", "rename", "fork", "parts", "fork 00", "fork +1", "fork -1", "fork 1.",
                "fork 0,1", "fork (0 1)", "fork 0\n", "put 0 ", "put 0  1", "put\n0", "parts 0 1 / 2", "new 0", "new 10", "new 1 ",
                "fork \u00b2", "fork \u0663", "take \uff11", "what", "ok", "batch", "at 0", "news", "put 1_0", "put 0x1"]
        for line in [*rows, *ODD, b"tree", ["tree"], ("tree",), {"tree": 0}]:
            before = copy.deepcopy(line)
            self.assertEqual(shell.say(line), "what", repr(line))
            self.assertEqual(repr(line), repr(before))
        self.assertEqual([shell.say("tree"), shell.say("undo")], ["(0 1 2 3)", "no NothingToUndo"])

    def test_odd_values_ahead_of_all(self):
        for line in ODD:
            self.assertEqual(Shell().say(line), "what")

    def test_shells_are_apart(self):
        first, second = Shell(), Shell()
        first.say("new 3")
        self.assertEqual([second.say("tree"), first.say("tree")], ["no board", "(0 1 2)"])

    def test_interface(self):
        self.assertEqual(list(inspect.signature(Shell).parameters), [])
        self.assertEqual(list(inspect.signature(Shell.say).parameters), ["self", "line"])
        self.assertIn("say", vars(Shell))
        self.assertEqual(Shell().say(line="tree"), "no board")


if __name__ == "__main__":
    unittest.main()
