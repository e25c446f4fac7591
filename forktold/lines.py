"""Lines: orders in which all leaves stand, with the leaves of each nest together."""

from math import factorial

from forktold.errors import NotNest, NotOrder, TooFar
from forktold.lots import all_leaves, in_order, is_lot, is_row
from forktold.nests import above, need_forked, parts
from forktold.several import nests_of


def stands_together(line, lot):
    """Whether the leaves of a lot come one behind another in a line."""
    places = [line.index(leaf) for leaf in lot]
    return max(places) - min(places) == len(lot) - 1


def keeps_line(tree, value):
    """Whether a value is a line that keeps a tree."""
    return is_row(tree[0], value) and all([stands_together(value, nest) for nest in tree[1]])


def need_order(tree, line):
    """Raise NotOrder with the place of the first nest that a line does not keep."""
    for place, nest in enumerate(tree[1]):
        if not stands_together(line, nest):
            raise NotOrder(place)


def lines_from(tree, ahead):
    """How many lines that keep a tree begin with the leaves that one of them begins with."""
    many = 1
    for nest in tree[1]:
        # A part that is begun comes to its end first; then the others stand
        # in any order.
        fresh = [part for part in parts(tree, nest) if not any([leaf in part for leaf in ahead])]
        many *= factorial(len(fresh))
    return many


def line_count(tree):
    """How many lines keep a tree."""
    return lines_from(tree, ())


def bits(lot):
    """A lot as a number with one bit for each leaf."""
    return sum([1 << leaf for leaf in lot])


def next_leaves(size, nests, held):
    """The leaves that can come next, where held came; nests and held are told by bits."""
    free = bits(all_leaves(size)) & ~held
    for nest in nests:
        # What is begun goes on until it has all its leaves.
        if nest & held and nest & ~held:
            free &= nest
    return [leaf for leaf in all_leaves(size) if (free >> leaf) & 1]


def next_in(tree, ahead):
    """The leaves that can come next in a line that keeps a tree."""
    return next_leaves(tree[0], [bits(nest) for nest in tree[1]], bits(ahead))


def all_lines(tree):
    """All lines that keep a tree, in order."""
    lines = [()]
    for _ in all_leaves(tree[0]):
        lines = [(*line, leaf) for line in lines for leaf in next_in(tree, line)]
    return lines


def nth_line(tree, number):
    """The line with a number among those that keep a tree."""
    count = line_count(tree)
    if number >= count:
        raise TooFar(count)
    line = ()
    left = number
    for _ in all_leaves(tree[0]):
        for leaf in next_in(tree, line):
            many = lines_from(tree, (*line, leaf))
            if left < many:
                break
            left -= many
        line = (*line, leaf)
    return line


def line_place(tree, line):
    """The number of a line among those that keep a tree."""
    need_order(tree, line)
    many = 0
    for place, leaf in enumerate(line):
        ahead = line[:place]
        many += sum([lines_from(tree, (*ahead, other)) for other in next_in(tree, ahead) if other < leaf])
    return many


def longer(size, nests, lines):
    """By the leaves that they have, the first beginnings of one leaf more than those of lines."""
    found = {}
    for held, line in lines.items():
        for leaf in next_leaves(size, nests, held):
            further = held | (1 << leaf)
            grown = (*line, leaf)
            found[further] = min(grown, found.get(further, grown))
    return found


def first_line(size, lots):
    """The first line in which some lots stand together, None if there is none."""
    nests = [bits(lot) for lot in lots]
    # How a beginning can go on depends on its leaves alone, not on their
    # order: so it is enough to keep the first one of the same leaves.
    lines = {0: ()}
    for _ in all_leaves(size):
        lines = longer(size, nests, lines)
    return lines.get(bits(all_leaves(size)))


def common_line(size, trees):
    """The first line that keeps all trees, None if there is none."""
    return first_line(size, nests_of(trees))


def without_nest(nests, nest):
    """All of some nests but one."""
    return tuple([other for other in nests if other != nest])


def bar(size, trees):
    """None if a line keeps all trees, else nests that stand together in none, but do without any one."""
    nests = nests_of(trees)
    if first_line(size, nests) is not None:
        return None
    for nest in list(nests):
        fewer = without_nest(nests, nest)
        if first_line(size, fewer) is None:
            nests = fewer
    return nests


def bar_holds(size, trees, value):
    """Whether a value is right for bar where no line keeps all trees."""
    nests = nests_of(trees)
    if not isinstance(value, tuple) or not all([is_lot(size, item) and item in nests for item in value]):
        return False
    if value != in_order(value) or first_line(size, value) is not None:
        return False
    return all([first_line(size, without_nest(value, nest)) is not None for nest in value])


def turned(tree, line, nest):
    """The line in which the leaves of a nest stand the other way round."""
    if nest not in tree[1]:
        raise NotNest(nest)
    need_order(tree, line)
    start = min([line.index(leaf) for leaf in nest])
    end = start + len(nest)
    return (*line[:start], *line[start:end][::-1], *line[end:])


def first_part_ahead(tree, line, nest):
    """Whether the first part of a nest of two parts stands ahead of the second one."""
    first, second = parts(tree, nest)
    return line.index(first[0]) < line.index(second[0])


def turns_between(tree, line, last):
    """The nests that lead from one line to another one if they are turned."""
    need_forked(tree)
    need_order(tree, line)
    need_order(tree, last)
    swapped = {}
    for nest in tree[1]:
        swapped[nest] = first_part_ahead(tree, line, nest) != first_part_ahead(tree, last, nest)
    # To turn a nest swaps the parts of each nest within it, too: so just the
    # nests are turned that are not swapped as the nest around them is.
    rows = []
    for nest in tree[1]:
        around = [swapped[outer] for outer in above(tree, nest)[:1]]
        if swapped[nest] != any(around):
            rows.append(nest)
    return tuple(rows)
