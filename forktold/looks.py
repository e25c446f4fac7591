"""Looks: what boards tell of their trees, asked by any values."""

from forktold.errors import NotLot, NotNest
from forktold.lots import is_below, is_lot
from forktold.nests import fork, is_nest, parts


def nest_at(nests, index):
    """The nest at a place."""
    if not is_below(len(nests), index):
        raise NotNest(index)
    return nests[index]


def fork_of(tree, lot):
    """The fork of a lot that has leaves."""
    if not is_lot(tree[0], lot) or len(lot) == 0:
        raise NotLot(lot)
    return fork(tree, lot)


def parts_of(tree, lot):
    """The parts of a nest."""
    if not is_nest(tree, lot):
        raise NotNest(lot)
    return parts(tree, lot)
