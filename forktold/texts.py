"""Texts of trees, written and read."""

from forktold.bounds import MAX_LEAVES
from forktold.errors import BadText
from forktold.lots import all_leaves, in_order
from forktold.nests import parts

FIGURES = "0123456789"


def tree_text(tree):
    """The text of a tree."""
    return lot_text(tree, all_leaves(tree[0]))


def lot_text(tree, lot):
    """The text of a tip or a nest."""
    if len(lot) == 1:
        return str(lot[0])
    return "(" + " ".join([lot_text(tree, part) for part in parts(tree, lot)]) + ")"


def parse_tree(value):
    """The tree of a text."""
    if not isinstance(value, str):
        raise BadText(0)
    reading = Reading()
    for place, sign in enumerate(value):
        if not reading.read(sign) or not reading.goes_on():
            raise BadText(place)
    if not reading.is_whole():
        raise BadText(len(value))
    return (len(reading.leaves), in_order(reading.nests))


class OpenNest:
    """A nest whose closing bracket has not been read."""

    def __init__(self, start):
        # How many leaves stand ahead of it, how many parts with a leaf it has
        # so far, and the first leaf of the last one of these.
        self.start = start
        self.many = 0
        self.last = -1


class Reading:
    """What has been read of a text."""

    def __init__(self):
        self.sign = ""
        self.leaves = []
        self.pending = []
        self.nests = []

    def read(self, sign):
        """Take one sign more; whether it can stand behind what was read."""
        before = self.sign
        self.sign = sign
        if before in ("", "(", " "):
            if sign == "(":
                self.pending.append(OpenNest(len(self.leaves)))
                return True
            return self.read_leaf(FIGURES.find(sign))
        if not self.pending:
            return False
        if sign == ")":
            return self.close()
        return sign == " "

    def read_leaf(self, leaf):
        """Take a leaf; whether it is one, is new and keeps parts in order."""
        if leaf < 0 or leaf >= MAX_LEAVES or leaf in self.leaves:
            return False
        self.leaves.append(leaf)
        for nest in self.pending[::-1]:
            if leaf < nest.last:
                return False
            nest.many += 1
            nest.last = leaf
            # Only with the first leaf of a nest a part of the nest around it
            # begins, too.
            if nest.many > 1:
                break
        return True

    def close(self):
        """Take a closing bracket; whether its nest has parts enough."""
        nest = self.pending.pop()
        self.nests.append(tuple(sorted(self.leaves[nest.start:])))
        return nest.many > 1

    def is_whole(self):
        """Whether all brackets are closed."""
        return self.sign != "" and not self.pending

    def goes_on(self):
        """Whether the text of some tree begins with what was read."""
        if self.is_whole():
            return sorted(self.leaves) == list(range(len(self.leaves)))
        free = [leaf for leaf in range(MAX_LEAVES) if leaf not in self.leaves]
        # Leaves for which nothing asks can come last, as parts of the
        # outermost nest, if they come behind the part that is last there.
        if free and free[0] < self.pending[0].last:
            return False
        return self.has_room(free)

    def has_room(self, free):
        """Whether the free leaves are enough to close all nests."""
        # A row of nests without a leaf needs a first leaf, and one more for
        # each of them; a blank needs a leaf behind it.
        begun = [nest for nest in self.pending if nest.many > 0]
        bare = len(self.pending) - len(begun)
        waits = bare > 0 or self.sign == " "
        asked = bare + 1 if waits else 0
        if asked > len(free):
            return False
        # From within: what an inner nest takes is late enough for each outer
        # one, so it is enough to count.
        for nest in begun[::-1]:
            if nest.many == 1 and not waits:
                asked += 1
            waits = False
            if asked > len([leaf for leaf in free if leaf > nest.last]):
                return False
        return True
