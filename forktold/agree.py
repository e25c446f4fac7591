"""Where trees are the same: at which leaves they agree, or fit."""

from forktold.errors import Clash, NotNest
from forktold.lots import all_leaves, is_in, lots_in, outside, with_leaf
from forktold.nests import at, tips_and_nests
from forktold.several import need_trees, together


def clashes_in(trees, lot):
    """The clash threes of trees that are in a lot, in order."""
    need_trees(trees)
    return [three for three in lots_in(lot, 3) if is_clash(trees, three)]


def is_clash(trees, three):
    """Whether trees are not all the same at three leaves."""
    return len(set([at(tree, three) for tree in trees])) > 1


def hard_in(trees, lot):
    """The hard threes of trees that are in a lot, in order."""
    need_trees(trees)
    return [three for three in lots_in(lot, 3) if is_hard(trees, three)]


def is_hard(trees, three):
    """Whether two of the trees have each a nest with two of three leaves, and not the same two."""
    told = [at(tree, three) for tree in trees]
    return len(set([left for left in told if len(left[1]) > 1])) > 1


def greatest_lots(size, threes):
    """The greatest lots in which none of some threes is, in order."""
    leaves = all_leaves(size)
    lots = [lot for many in range(size + 1) for lot in lots_in(leaves, many)]
    free = {lot: True for lot in lots if not any([is_in(three, lot) for three in threes])}
    return tuple([lot for lot in free if not any([with_leaf(lot, leaf) in free for leaf in outside(size, lot)])])


def clash_threes(trees):
    """All clash threes of trees."""
    return tuple(clashes_in(trees, all_leaves(trees[0][0])))


def hard_threes(trees):
    """All hard threes of trees."""
    return tuple(hard_in(trees, all_leaves(trees[0][0])))


def is_agreement(trees, lot):
    """Whether trees are the same tree at a lot."""
    return not clashes_in(trees, lot)


def agreed_tree(trees, lot):
    """The tree that all trees are at a lot."""
    threes = clashes_in(trees, lot)
    if threes:
        raise Clash(threes[0])
    return at(trees[0], lot)


def agreements(trees):
    """The greatest lots at which trees agree."""
    return greatest_lots(trees[0][0], clash_threes(trees))


def greatest_agreement(trees):
    """The first one of the agreements that have the most leaves."""
    rows = agreements(trees)
    return [row for row in rows if len(row) == len(rows[-1])][0]


def fits(trees, lot):
    """Whether no two nests of trees at a lot cross."""
    return not hard_in(trees, lot)


def fittings(trees):
    """The greatest lots at which trees fit."""
    return greatest_lots(trees[0][0], hard_threes(trees))


def fitted_tree(trees, lot):
    """The tree that has all nests of what trees are at a lot."""
    threes = hard_in(trees, lot)
    if threes:
        raise Clash(threes[0])
    return together(tuple([at(tree, lot) for tree in trees]))


def most_within(rows, lot, further):
    """The greatest number of leaves of an agreement in two lots, rows being the greatest ones."""
    # What is in an agreement is one, too: so it is enough to look at what the
    # greatest ones have in both lots.
    shared = [leaf for leaf in lot if leaf in further]
    return max([len([leaf for leaf in shared if leaf in row]) for row in rows])


def agree_number(tree, other, lot, further):
    """The greatest number of leaves in a nest or tip of each of two trees at which they agree."""
    rows = agreements((tree, other))
    if lot not in tips_and_nests(tree):
        raise NotNest(lot)
    if further not in tips_and_nests(other):
        raise NotNest(further)
    return most_within(rows, lot, further)


def agreement_table(tree, other):
    """All nests and tips of two trees, by pairs, with their agree_number."""
    rows = agreements((tree, other))
    pairs = [(lot, further) for lot in tips_and_nests(tree) for further in tips_and_nests(other)]
    return tuple([(lot, further, most_within(rows, lot, further)) for lot, further in pairs])


def distance(tree, other):
    """How many leaves have to be left out so that two trees agree at the rest."""
    return tree[0] - len(greatest_agreement((tree, other)))
