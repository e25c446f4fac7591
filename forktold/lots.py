"""Lots: ascending tuples of leaves, and their order."""

from forktold.bounds import MAX_LEAVES


def is_integer(value):
    """Whether a value is an int that is not a bool."""
    return isinstance(value, int) and not isinstance(value, bool)


def is_sized(value):
    """Whether a value is a pair whose first item is a size."""
    if not isinstance(value, tuple) or len(value) != 2:
        return False
    return is_integer(value[0]) and 1 <= value[0] <= MAX_LEAVES


def is_ascending(value, limit):
    """Whether a value is an ascending tuple of integers from 0 to below a limit."""
    if not isinstance(value, tuple):
        return False
    least = 0
    for item in value:
        if not is_integer(item) or item < least or item >= limit:
            return False
        least = item + 1
    return True


def is_below(limit, value):
    """Whether a value is an integer from 0 to below a limit."""
    return is_integer(value) and 0 <= value < limit


def is_leaf(size, value):
    """Whether a value is a leaf of a size."""
    return is_below(size, value)


def is_lot(size, value):
    """Whether a value is a lot of a size."""
    return is_ascending(value, size)


def is_row(size, value):
    """Whether a value is a tuple of all leaves of a size, each once."""
    if not isinstance(value, tuple) or len(value) != size:
        return False
    return all([is_leaf(size, item) for item in value]) and len(set(value)) == size


def all_leaves(size):
    """The lot of all leaves of a size."""
    return tuple(range(size))


def outside(size, lot):
    """The lot of all leaves of a size that a lot does not have."""
    return tuple([leaf for leaf in all_leaves(size) if leaf not in lot])


def with_leaf(lot, leaf):
    """A lot and one leaf more, which it does not have."""
    return tuple(sorted((*lot, leaf)))


def lots_in(lot, many):
    """All lots of so many leaves that are in a lot, in order."""
    rows = [()]
    for _ in range(many):
        rows = [(*row, leaf) for row in rows for leaf in lot if not row or row[-1] < leaf]
    return rows


def is_in(lot, other):
    """Whether each leaf of a lot is one of another one's."""
    return all([leaf in other for leaf in lot])


def crossing(lot, other):
    """Whether two lots have a leaf in common and neither is in the other."""
    shared = len([leaf for leaf in lot if leaf in other])
    return 0 < shared < min(len(lot), len(other))


def rank(lot):
    """What the order of lots compares."""
    return (len(lot), lot)


def in_order(lots):
    """The lots in order, each once."""
    once = {lot: True for lot in lots}
    return tuple(sorted(list(once), key=rank))


def first_cross(lots):
    """The pair of places of the first two lots that cross, None if no two do."""
    # A lot that comes again crosses what it crossed the first time, so both
    # places of the first pair are those where their lots stand first.
    places = {}
    for place, lot in enumerate(lots):
        places.setdefault(lot, place)
    rows = list(places.items())
    for lot, place in rows:
        for other, behind in rows:
            if place < behind and crossing(lot, other):
                return (place, behind)
    return None
