"""Nests of a tree: their parts, and what is left of them elsewhere."""

from forktold.errors import NotForked, NotNest, Unfit
from forktold.lots import all_leaves, crossing, in_order, is_in, is_lot, outside


def parts(tree, nest):
    """The parts of a nest, in order by their least leaves."""
    if nest not in tree[1]:
        raise NotNest(nest)
    # Nests come with fewer leaves first, so the greatest one that has a leaf
    # is the last one that is put down for it.
    part_of = {leaf: (leaf,) for leaf in nest}
    for inner in tree[1]:
        if inner != nest and is_in(inner, nest):
            for leaf in inner:
                part_of[leaf] = inner
    return tuple([part_of[leaf] for leaf in nest if part_of[leaf][0] == leaf])


def tips_and_nests(tree):
    """All tips and nests of a tree, in order."""
    return (*[(leaf,) for leaf in all_leaves(tree[0])], *tree[1])


def is_nest(tree, value):
    """Whether a value is one of the nests of a tree."""
    return is_lot(tree[0], value) and value in tree[1]


def fork(tree, lot):
    """The least nest that a lot is in, for a tip the tip itself."""
    if len(lot) == 1:
        return lot
    return [nest for nest in tree[1] if is_in(lot, nest)][0]


def above(tree, lot):
    """All nests that a lot is in and that are not it, the least one first."""
    return tuple([nest for nest in tree[1] if nest != lot and is_in(lot, nest)])


def is_forked(tree):
    """Whether each nest of a tree has just two parts."""
    return all([len(parts(tree, nest)) == 2 for nest in tree[1]])


def need_forked(tree):
    """Raise NotForked with the first nest that has more than two parts."""
    for nest in tree[1]:
        if len(parts(tree, nest)) > 2:
            raise NotForked(nest)


def level(tree, leaf):
    """How many nests have a leaf."""
    return len([nest for nest in tree[1] if leaf in nest])


def least_leaves(tree):
    """For each nest, in order, the least leaves of its parts."""
    return tuple([tuple([part[0] for part in parts(tree, nest)]) for nest in tree[1]])


def at(tree, lot):
    """What is left of a tree by the leaves of a lot, named anew."""
    naming = {leaf: name for name, leaf in enumerate(lot)}
    left = [tuple([naming[leaf] for leaf in nest if leaf in naming]) for nest in tree[1]]
    return (len(lot), in_order([nest for nest in left if len(nest) > 1]))


def without(tree, leaf):
    """What is left of a tree without one leaf."""
    return at(tree, outside(tree[0], (leaf,)))


def need_one_size(tree, other):
    """Raise Unfit for trees of unlike sizes."""
    if tree[0] != other[0]:
        raise Unfit()


def finer(tree, other):
    """Whether the first tree has all nests of the second one."""
    need_one_size(tree, other)
    return all([nest in tree[1] for nest in other[1]])


def finer_pair(tree, other):
    """The places of the first two nests that cross, None if no two do."""
    need_one_size(tree, other)
    for place, nest in enumerate(tree[1]):
        for behind, further in enumerate(other[1]):
            if crossing(nest, further):
                return (place, behind)
    return None


def common(tree, other):
    """The tree of the nests that both trees have."""
    need_one_size(tree, other)
    return (tree[0], tuple([nest for nest in tree[1] if nest in other[1]]))
