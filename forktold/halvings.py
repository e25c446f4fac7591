"""Halvings and webs: trees without a root, told by lots without leaf 0."""

from forktold.errors import Cross, Unfit
from forktold.lots import all_leaves, crossing, first_cross, in_order, is_lot, is_sized, lots_in, outside, rank


def halving_of(size, lot):
    """The halving that parts a lot from all other leaves, None if there is none."""
    rest = outside(size, lot)
    if len(lot) < 2 or len(rest) < 2:
        return None
    return rest if 0 in lot else lot


def is_halving(size, value):
    """Whether a value is a halving of a size."""
    return is_lot(size, value) and halving_of(size, value) == value


def all_halvings(size):
    """All halvings of a size, in order."""
    others = all_leaves(size)[1:]
    return [lot for many in range(2, size - 1) for lot in lots_in(others, many)]


def go_together(halving, other):
    """Whether one halving is in the other, or they have no leaf in common."""
    return not crossing(halving, other)


def web_error(value):
    """None for a web, else what is the first thing wrong with a value."""
    if not is_sized(value):
        return "size"
    size, halvings = value
    if not isinstance(halvings, tuple):
        return "halvings"
    for place, halving in enumerate(halvings):
        if not is_halving(size, halving):
            return ("halving", place)
    for place in range(1, len(halvings)):
        if rank(halvings[place]) <= rank(halvings[place - 1]):
            return ("order", place)
    pair = first_cross(halvings)
    if pair is not None:
        return ("cross", *pair)
    return None


def web_of(size, lots):
    """The web of the halvings of some lots."""
    told = [halving_of(size, lot) for lot in lots]
    halvings = in_order([halving for halving in told if halving is not None])
    pair = first_cross(halvings)
    if pair is not None:
        raise Cross((halvings[pair[0]], halvings[pair[1]]))
    return (size, halvings)


def is_forked_web(web):
    """Whether a web has as many halvings as one of its size can have."""
    return len(web[1]) == max(0, web[0] - 3)


def finer_web(web, other):
    """Whether the first web has all halvings of the second one."""
    if web[0] != other[0]:
        raise Unfit()
    return all([halving in web[1] for halving in other[1]])
