"""Roots of webs: where they can be put, and what the leaves fall into there."""

from forktold.bounds import MAX_LEAVES
from forktold.errors import TooMany
from forktold.halvings import web_of
from forktold.lots import all_leaves, is_in, outside
from forktold.nests import parts, without
from forktold.trees import tree_of


def rooted(web, leaf):
    """The tree of all leaves but one that a web is, seen from that one."""
    size, halvings = web
    away = [outside(size, halving) if leaf in halving else halving for halving in halvings]
    return without(tree_of(size, tuple(away)), leaf)


def web_of_tree(tree):
    """The web in which leaf 0 is new and each leaf of a tree is one more."""
    size, nests = tree
    if size >= MAX_LEAVES:
        raise TooMany(MAX_LEAVES)
    return (size + 1, tuple([tuple([leaf + 1 for leaf in nest]) for nest in nests if len(nest) < size]))


def unrooted(tree):
    """The web of the halvings of all nests of a tree."""
    return web_of(tree[0], tree[1])


def beside_first(web):
    """The tree of a web and its own leaves whose root parts leaf 0 from all others."""
    size, halvings = web
    return tree_of(size, (*halvings, all_leaves(size)[1:]))


def knots(web):
    """All knots of a web, each told by the lots into which the leaves fall there."""
    size, halvings = web
    if size < 3:
        return ()
    tree = beside_first(web)
    nests = (all_leaves(size)[1:], *halvings)
    return tuple([(outside(size, nest), *parts(tree, nest)) for nest in nests])


def root_at(web, lots):
    """The tree of a web whose root is where the leaves fall into some lots."""
    size, halvings = web
    sides = [side for halving in halvings for side in (halving, outside(size, halving))]
    inner = [side for side in sides if any([is_in(side, lot) for lot in lots])]
    return tree_of(size, (*lots, *inner))


def few_nests_first(tree):
    """What the order of all_rooted compares."""
    return (len(tree[1]), tree[1])


def all_rooted(web):
    """All trees whose unrooted web is a web."""
    size, halvings = web
    ways = [*[(leaf,) for leaf in all_leaves(size)], *halvings]
    places = [*[(lot, outside(size, lot)) for lot in ways], *knots(web)]
    # With two leaves both ways are the same one, so each tree is kept once.
    once = {root_at(web, lots): True for lots in places}
    return tuple(sorted(list(once), key=few_nests_first))
