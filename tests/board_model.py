"""What the tests compare boards with, written apart from them: lists of trees and slow edits."""

from forktold import errors
from tests.reference import (
    rank, shape, slow_at, slow_crossing, slow_is_integer, slow_is_lot, slow_put_in, slow_renamed,
)

WORDS = ("put", "take", "merge", "split", "rename")
VERSIONS = 40


def slow_is_map(size, value):
    return type(value) is tuple and all(slow_is_integer(item) for item in value) and sorted(value) == list(range(size))


def slow_is_nest(tree, value):
    return slow_is_lot(tree[0], value) and value in tree[1]


def slow_put(tree, lot):
    if not slow_is_lot(tree[0], lot) or lot == ():
        raise errors.NotLot(lot)
    if tree[0] == 9:
        raise errors.TooMany(9)
    return slow_put_in(tree, lot)


def slow_take(tree, leaf):
    if tree[0] == 1 or not slow_is_integer(leaf) or leaf not in range(tree[0]):
        raise errors.NotLeaf(leaf)
    return slow_at(tree, tuple(other for other in range(tree[0]) if other != leaf))


def slow_merge(tree, lot):
    if not slow_is_nest(tree, lot) or len(lot) == tree[0]:
        raise errors.NotNest(lot)
    return tree[0], tuple(nest for nest in tree[1] if nest != lot)


def slow_split(tree, lot):
    if not slow_is_lot(tree[0], lot) or len(lot) < 2:
        raise errors.NotLot(lot)
    crossed = [nest for nest in tree[1] if slow_crossing(lot, nest)]
    if crossed:
        raise errors.Cross((lot, crossed[0]))
    return tree[0], tuple(sorted({*tree[1], lot}, key=rank))


def slow_rename(tree, naming):
    if not slow_is_map(tree[0], naming):
        raise errors.BadMap()
    return slow_renamed(tree, naming)


EDITS = dict(zip(WORDS, (slow_put, slow_take, slow_merge, slow_split, slow_rename)))


def slow_batch(tree, edits):
    if type(edits) is not tuple or len(edits) > 12:
        raise errors.BadBatch()
    if any(type(item) is not tuple or len(item) != 2 or type(item[0]) is not str or item[0] not in WORDS for item in edits):
        raise errors.BadBatch()
    for index, (word, argument) in enumerate(edits):
        try:
            tree = EDITS[word](tree, argument)
        except errors.ForkError:
            raise errors.Rejected(index) from None
    return tree


class Model:
    """A board as lists: all trees, how many of them stand, and what the last change took and brought."""

    def __init__(self, tree, kept=False):
        self.trees, self.version, self.kept, self.told = [tree], 0, kept, ((), ())

    @property
    def tree(self):
        return self.trees[self.version]

    def go(self, version):
        before, now = self.tree[1], self.trees[version][1]
        self.told = (tuple(nest for nest in before if nest not in now), tuple(nest for nest in now if nest not in before))
        self.version = version
        return version

    def edit(self, word, argument):
        tree = slow_batch(self.tree, argument) if word == "batch" else EDITS[word](self.tree, argument)
        if self.kept and shape(tree) != shape(self.tree):
            raise errors.Changed(tuple(range(tree[0])))
        if self.version == VERSIONS:
            raise errors.TooManyEdits()
        self.trees = self.trees[:self.version + 1] + [tree]
        return self.go(self.version + 1)

    def undo(self):
        if self.version == 0:
            raise errors.NothingToUndo()
        return self.go(self.version - 1)

    def redo(self):
        if self.version == len(self.trees) - 1:
            raise errors.NothingToRedo()
        return self.go(self.version + 1)

    def at(self, version):
        if not slow_is_integer(version) or version not in range(self.version + 1):
            raise errors.NoVersion(version)
        return self.trees[version]

    def copy(self):
        other = Model(self.tree, self.kept)
        other.trees, other.version, other.told = list(self.trees), self.version, self.told
        return other


def outcome(call):
    """What a call returns, or which error of the package comes out of it, with what it keeps."""
    try:
        return "returns", call()
    except errors.ForkError as error:
        return type(error).__name__, vars(error)
