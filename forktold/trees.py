"""Trees: a size and the nests, in order."""

from forktold.bounds import MAX_LEAVES
from forktold.errors import Cross, TooMany
from forktold.lots import all_leaves, first_cross, in_order, is_lot, is_sized


def tree_error(value):
    """None for a tree, else what is the first thing wrong with a value."""
    if not is_sized(value):
        return "size"
    size, nests = value
    if not isinstance(nests, tuple):
        return "nests"
    for place, nest in enumerate(nests):
        if not is_lot(size, nest) or len(nest) < 2:
            return place
    if nests != in_order(nests):
        return "order"
    pair = first_cross(nests)
    if pair is not None:
        return pair
    if size > 1 and all_leaves(size) not in nests:
        return "all"
    return None


def tree_of(size, lots):
    """The tree whose nests are those of some lots, and that of all leaves."""
    pair = first_cross(lots)
    if pair is not None:
        raise Cross(pair)
    nests = [lot for lot in [*lots, all_leaves(size)] if len(lot) > 1]
    return (size, in_order(nests))


def bush(size):
    """The tree that has no nest but that of all leaves."""
    return tree_of(size, ())


def comb(size):
    """The tree with the nests (0, 1), (0, 1, 2) and so on."""
    return tree_of(size, tuple([all_leaves(many) for many in range(2, size)]))


def under(trees):
    """The tree whose nest of all leaves has some trees for its parts."""
    size = 0
    nests = []
    for tree in trees:
        nests.extend([tuple([leaf + size for leaf in nest]) for nest in tree[1]])
        size += tree[0]
    if size > MAX_LEAVES:
        raise TooMany(MAX_LEAVES)
    return tree_of(size, tuple(nests))
