"""Edits: what boards do to their trees, each of them from any value."""

from forktold.bounds import BATCH
from forktold.errors import BadBatch, ForkError, NotLeaf, NotLot, NotNest, Rejected
from forktold.lots import is_leaf, is_lot
from forktold.moves import merged, put_in, split, take_out
from forktold.nests import is_nest
from forktold.renames import renamed


def put_lot(tree, lot):
    """The tree with a leaf put in at a lot."""
    if not is_lot(tree[0], lot) or len(lot) == 0:
        raise NotLot(lot)
    return put_in(tree, lot)


def take_leaf(tree, leaf):
    """The tree without a leaf, of which it keeps at least one."""
    if tree[0] == 1 or not is_leaf(tree[0], leaf):
        raise NotLeaf(leaf)
    return take_out(tree, leaf)


def merge_nest(tree, lot):
    """The tree without a nest."""
    if not is_nest(tree, lot):
        raise NotNest(lot)
    return merged(tree, lot)


def split_lot(tree, lot):
    """The tree with a lot as a nest more."""
    if not is_lot(tree[0], lot) or len(lot) < 2:
        raise NotLot(lot)
    return split(tree, lot)


def rename_leaves(tree, naming):
    """The tree with all leaves named anew."""
    return renamed(tree, naming)


EDITS = {"put": put_lot, "take": take_leaf, "merge": merge_nest, "split": split_lot, "rename": rename_leaves}


def is_edit(value):
    """Whether a value is a pair of the word of an edit and its argument."""
    if not isinstance(value, tuple) or len(value) != 2:
        return False
    return isinstance(value[0], str) and value[0] in EDITS


def batched(tree, edits):
    """The tree behind all edits of a batch."""
    if not isinstance(edits, tuple) or len(edits) > BATCH or not all([is_edit(item) for item in edits]):
        raise BadBatch()
    for index, (word, argument) in enumerate(edits):
        edit = EDITS[word]
        try:
            tree = edit(tree, argument)
        except ForkError:
            raise Rejected(index)
    return tree
