"""Moves: what makes a tree of another one, one step behind another."""

from forktold.bounds import MAX_LEAVES, MAX_ROWS
from forktold.errors import Cross, NotNest, TooMany
from forktold.lots import all_leaves, crossing, in_order, is_in, rank, with_leaf
from forktold.nests import above, need_forked, need_one_size, parts, tips_and_nests, without
from forktold.several import alone, differs
from forktold.trees import tree_error


def put_in(tree, lot):
    """A tree with one leaf more, beside a nest or tip, or as one part more of a lot's fork."""
    size, nests = tree
    if size >= MAX_LEAVES:
        raise TooMany(MAX_LEAVES)
    around = above(tree, lot)
    grown = [with_leaf(nest, size) if nest in around else nest for nest in nests]
    if lot in tips_and_nests(tree):
        grown.append(with_leaf(lot, size))
    return (size + 1, in_order(grown))


def take_out(tree, leaf):
    """What is left of a tree without one leaf."""
    return without(tree, leaf)


def merged(tree, nest):
    """The tree without a nest that is not that of all leaves."""
    size, nests = tree
    if nest not in nests[:-1]:
        raise NotNest(nest)
    return (size, tuple([other for other in nests if other != nest]))


def split(tree, lot):
    """The tree with a lot as a nest more."""
    size, nests = tree
    for nest in nests:
        if crossing(lot, nest):
            raise Cross((lot, nest))
    return (size, in_order((*nests, lot)))


def steps(tree, other):
    """The trees from one to another one, each with one nest merged or split off."""
    need_one_size(tree, other)
    rows = [tree]
    for nest in alone(tree, other):
        rows.append(merged(rows[-1], nest))
    for nest in alone(other, tree):
        rows.append(split(rows[-1], nest))
    return tuple(rows)


def are_trees(size, value):
    """Whether a value is a tuple of one or more trees of a size."""
    if not isinstance(value, tuple) or value == ():
        return False
    return all([tree_error(item) is None and item[0] == size for item in value])


def steps_error(tree, other, value):
    """None if steps may return a value, else what is wrong with it."""
    need_one_size(tree, other)
    if not are_trees(tree[0], value):
        return "trees"
    if value[0] != tree or value[-1] != other:
        return "ends"
    for place in range(1, len(value)):
        if differs(value[place - 1], value[place]) != 1:
            return place
    if len(value) > differs(tree, other) + 1:
        return "long"
    return None


def nests_rank(tree):
    """What the order of trees of as many nests compares."""
    return [rank(nest) for nest in tree[1]]


def join(lot, other):
    """The lot of the leaves of two lots that have none in common."""
    return tuple(sorted((*lot, *other)))


def turns(tree):
    """All trees that one turn makes of a forked tree."""
    need_forked(tree)
    rows = []
    for nest in tree[1][:-1]:
        around = above(tree, nest)[0]
        beside = [part for part in parts(tree, around) if part != nest][0]
        for part in parts(tree, nest):
            rows.append(split(merged(tree, nest), join(part, beside)))
    return tuple(sorted(rows, key=nests_rank))


def row_of_turns(tree, other):
    """A shortest row of forked trees from one to another one, each a turn of the one ahead."""
    need_one_size(tree, other)
    need_forked(tree)
    need_forked(other)
    if tree[0] > MAX_ROWS:
        raise TooMany(MAX_ROWS)
    # From the end, so that the row is read off in its order.
    behind = {other: ()}
    reached = [other]
    while tree not in behind:
        further = []
        # A copy, as reached was called further in the pass ahead of this one.
        for last in list(reached):
            for turn in turns(last):
                if turn not in behind:
                    behind[turn] = (last, *behind[last])
                    further.append(turn)
        reached = further
    return (tree, *behind[tree])


def cut_and_put(tree, lot, place):
    """The tree in which a nest or tip is cut off, and put back beside a nest or tip of what is left."""
    need_forked(tree)
    if lot not in tips_and_nests(tree)[:-1]:
        raise NotNest(lot)
    rest = tuple([leaf for leaf in all_leaves(tree[0]) if leaf not in lot])
    left = [tuple([leaf for leaf in nest if leaf not in lot]) for nest in tree[1]]
    left = [nest for nest in in_order(left) if len(nest) > 1]
    if place not in [*[(leaf,) for leaf in rest], *left]:
        raise NotNest(place)
    grown = [join(nest, lot) if nest != place and is_in(place, nest) else nest for nest in left]
    within = [nest for nest in tree[1] if is_in(nest, lot)]
    return (tree[0], in_order((*grown, *within, join(place, lot))))
