"""Sides: lines against trees, and how few pairs of leaves have to cross."""

from forktold.bounds import MAX_LINES
from forktold.errors import TooMany, Unfit
from forktold.lines import all_lines, line_count
from forktold.lots import all_leaves
from forktold.nests import need_forked, need_one_size, parts


def crossing_pairs(line, lot, other):
    """How many pairs of a leaf of each of two lots cross, if the first lot stands ahead of the other one."""
    return len([leaf for leaf in lot for behind in other if line.index(leaf) > line.index(behind)])


def crossings(line, other):
    """How many pairs of leaves are crossings of two lines."""
    if len(line) != len(other):
        raise Unfit()
    return sum([crossing_pairs(line, other[:place], (leaf,)) for place, leaf in enumerate(other)])


def turn_costs(tree, line):
    """For each nest how many pairs cross, if its first part stands ahead and if it stands behind."""
    need_forked(tree)
    costs = []
    for nest in tree[1]:
        first, second = parts(tree, nest)
        costs.append((crossing_pairs(line, first, second), crossing_pairs(line, second, first)))
    return tuple(costs)


def least_crossings(tree, line):
    """The least number of crossings that a line has with any line that keeps a tree."""
    return crossings(line, untangled(tree, line))


def untangled(tree, line):
    """A line that keeps a tree and has as few crossings with another line as can be."""
    # Whether two leaves cross is told by the order of the parts of their fork
    # alone, so each nest is put in order by itself.
    told = {(leaf,): (leaf,) for leaf in line}
    for nest in tree[1]:
        told[nest] = joined(best_order(line, [told[part] for part in parts(tree, nest)]))
    return told[all_leaves(tree[0])]


def joined(rows):
    """The leaves of some rows, one row behind another."""
    return tuple([leaf for row in rows for leaf in row])


def best_order(line, rows):
    """The rows in an order by which as few pairs as can be of leaves of two of them cross."""
    if len(rows) < 2:
        return rows
    for row in rows:
        others = [other for other in rows if other != row]
        if all([crossing_pairs(line, row, other) <= crossing_pairs(line, other, row) for other in others]):
            # Wherever it stood, it is no worse ahead of all others.
            return [row, *best_order(line, others)]
    orders = []
    for row in rows:
        orders.append([row, *best_order(line, [other for other in rows if other != row])])
    return min(orders, key=lambda order: order_cost(line, order))


def order_cost(line, rows):
    """How many pairs of leaves of two rows cross, if the rows stand in their order."""
    return sum([crossing_pairs(line, joined(rows[:place]), row) for place, row in enumerate(rows)])


def facing(tree, other):
    """The least number of crossings of any two lines that keep one tree each."""
    need_one_size(tree, other)
    many, further = line_count(tree), line_count(other)
    if min(many, further) > MAX_LINES:
        raise TooMany(MAX_LINES)
    if many <= further:
        return min([least_crossings(other, line) for line in all_lines(tree)])
    return min([least_crossings(tree, line) for line in all_lines(other)])
