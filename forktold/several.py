"""Several trees of one size: what most have, how far they differ, what lies between."""

from forktold.bounds import MAX_MIDDLES, MAX_TREES
from forktold.errors import Cross, TooMany
from forktold.lots import crossing, first_cross, in_order, rank
from forktold.nests import need_one_size
from forktold.trees import tree_error


def need_trees(trees):
    """Raise Unfit for trees of unlike sizes, then TooMany for too many of them."""
    for tree in trees:
        need_one_size(trees[0], tree)
    if len(trees) > MAX_TREES:
        raise TooMany(MAX_TREES)


def nests_of(trees):
    """The nests of all trees, in order, each once."""
    return in_order([nest for tree in trees for nest in tree[1]])


def crosses_one(nest, others):
    """Whether a nest crosses one of some others."""
    return any([crossing(nest, other) for other in others])


def cross_of(nests):
    """The first two of some nests in order that cross, None if no two do."""
    pair = first_cross(nests)
    if pair is None:
        return None
    return (nests[pair[0]], nests[pair[1]])


def tree_of_nests(size, nests):
    """The tree of some nests in order, of which that of all leaves is one."""
    pair = cross_of(nests)
    if pair is not None:
        raise Cross(pair)
    return (size, nests)


def support(trees, lot):
    """How many of the trees have a lot as a nest."""
    need_trees(trees)
    return len([tree for tree in trees if lot in tree[1]])


def supports(trees):
    """The support of each nest of the trees, in order."""
    need_trees(trees)
    return {nest: support(trees, nest) for nest in nests_of(trees)}


def in_all(trees):
    """The tree of the nests that all trees have."""
    return at_least(trees, len(trees))


def in_most(trees):
    """The tree of the nests that more than half of the trees have."""
    return at_least(trees, len(trees) // 2 + 1)


def not_against(trees):
    """The tree of the nests that cross no nest of any of the trees."""
    need_trees(trees)
    nests = nests_of(trees)
    return (trees[0][0], tuple([nest for nest in nests if not crosses_one(nest, nests)]))


def at_least(trees, many):
    """The tree of the nests that at least so many of the trees have."""
    told = supports(trees)
    return tree_of_nests(trees[0][0], tuple([nest for nest in told if told[nest] >= many]))


def by_support(trees):
    """The tree of the nests that are taken, greatest support first, if they cross none taken."""
    told = supports(trees)
    taken = []
    for nest in sorted(list(told), key=lambda lot: (-told[lot], rank(lot))):
        if not crosses_one(nest, taken):
            taken.append(nest)
    return (trees[0][0], in_order(taken))


def crossing_pair(trees):
    """The first two nests of the trees that cross, None if no two do."""
    need_trees(trees)
    return cross_of(nests_of(trees))


def together(trees):
    """The tree that has all nests of all of the trees."""
    need_trees(trees)
    return tree_of_nests(trees[0][0], nests_of(trees))


def alone(tree, other):
    """The nests that the first tree has and the other one has not."""
    return tuple([nest for nest in tree[1] if nest not in other[1]])


def differing(tree, other):
    """The nests that the first tree alone has, and those that the other one alone has."""
    need_one_size(tree, other)
    return (alone(tree, other), alone(other, tree))


def differs(tree, other):
    """How many nests just one of two trees has."""
    first, second = differing(tree, other)
    return len(first) + len(second)


def spread(trees, tree):
    """The sum of what a tree differs from each of some trees."""
    need_trees(trees)
    return sum([differs(tree, other) for other in trees])


def least_spread(trees):
    """The least spread that any tree has."""
    return spread(trees, in_most(trees))


def is_middle(trees, value):
    """Whether a value is a tree with the least spread."""
    least = least_spread(trees)
    if tree_error(value) is not None or value[0] != trees[0][0]:
        return False
    return spread(trees, value) == least


def middle_rows(trees):
    """The nests of each middle tree."""
    rows = [in_most(trees)[1]]
    told = supports(trees)
    # What just half of the trees have crosses nothing that more of them have,
    # so any of these may come to those of in_most, as long as no two cross.
    for nest in told:
        if 2 * told[nest] == len(trees):
            rows = rows + [(*row, nest) for row in rows if not crosses_one(nest, row)]
    return rows


def middle_count(trees):
    """How many middle trees there are."""
    return len(middle_rows(trees))


def middles(trees):
    """All middle trees, in order as tuples."""
    rows = middle_rows(trees)
    if len(rows) > MAX_MIDDLES:
        raise TooMany(MAX_MIDDLES)
    return tuple(sorted([(trees[0][0], in_order(row)) for row in rows]))
