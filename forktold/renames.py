"""Renames: trees with new names of their leaves, and trees of the same shape."""

from forktold.bounds import MAX_MAPS
from forktold.errors import BadMap, TooMany
from forktold.lots import all_leaves, in_order, is_row
from forktold.nests import need_one_size, parts
from forktold.shapes import shape_text, symmetries


def renamed(tree, naming):
    """The tree with all leaves named anew by a map."""
    size, nests = tree
    if not is_row(size, naming):
        raise BadMap()
    return (size, in_order([tuple(sorted([naming[leaf] for leaf in nest])) for nest in nests]))


def same_shape(tree, other):
    """Whether one tree becomes the other one by new names."""
    return tree_shape(tree) == tree_shape(other)


def tree_shape(tree):
    """The shape of a whole tree, as a text."""
    return shape_text(tree, all_leaves(tree[0]))


def renamings(tree, other):
    """All maps by which the first tree becomes the second one, in order."""
    need_one_size(tree, other)
    if not same_shape(tree, other):
        return ()
    if symmetries(tree) > MAX_MAPS:
        raise TooMany(MAX_MAPS)
    leaves = all_leaves(tree[0])
    # Each way tells where leaves come from and go to, as pairs; in order they
    # are the leaves 0, 1 and so on with their names.
    ways = ways_of_lots(tree, leaves, other, leaves)
    return tuple(sorted([tuple([name for _, name in sorted(way)]) for way in ways]))


def ways_of_lots(tree, lot, other, further):
    """All ways to lead a nest or tip of a tree to one of the same shape: pairs of a leaf and its name."""
    if len(lot) == 1:
        return [((lot[0], further[0]),)]
    return ways_of_parts(tree, parts(tree, lot), other, parts(other, further))


def ways_of_parts(tree, lots, other, targets):
    """All ways to lead each of some lots to another one of as many targets."""
    if not lots:
        return [()]
    ways = []
    shape = shape_text(tree, lots[0])
    for target in targets:
        if shape_text(other, target) == shape:
            first = ways_of_lots(tree, lots[0], other, target)
            rest = ways_of_parts(tree, lots[1:], other, [lot for lot in targets if lot != target])
            ways.extend([(*way, *more) for way in first for more in rest])
    return ways


def row_of_leaves(tree, lot):
    """The leaves of a nest or tip in the order in which its shape's text has them."""
    if len(lot) == 1:
        return lot
    inner = sorted(parts(tree, lot), key=lambda part: shape_text(tree, part))
    return tuple([leaf for part in inner for leaf in row_of_leaves(tree, part)])


def normal(tree):
    """The tree of the same shape whose text is the first one."""
    # A text is the first one of its shape if its brackets come as early as
    # they can and then its leaves stand in order.
    row = row_of_leaves(tree, all_leaves(tree[0]))
    return renamed(tree, tuple([row.index(leaf) for leaf in all_leaves(tree[0])]))
