"""Counts: how many trees there are, and the how manieth one is."""

from math import comb, factorial, gcd

from forktold.errors import TooFar
from forktold.lots import all_leaves
from forktold.moves import put_in
from forktold.nests import above, at, need_forked, parts, tips_and_nests
from forktold.shapes import symmetries
from forktold.trees import bush


def fraction(top, bottom):
    """A fraction without a common divisor."""
    divisor = gcd(top, bottom)
    return (top // divisor, bottom // divisor)


def tree_count(size):
    """How many trees of a size there are."""
    # row[many] is how many of them have so many nests. The last leaf comes to
    # one of the nests, or above a tip or a nest, with one nest more.
    row = [1]
    for leaves in range(2, size + 1):
        above_any = [0, *[number * (leaves - 1 + many) for many, number in enumerate(row)]]
        to_nests = [*[number * many for many, number in enumerate(row)], 0]
        row = [first + second for first, second in zip(above_any, to_nests)]
    return sum(row)


def forked_count(size):
    """How many forked trees of a size there are."""
    many = 1
    for leaves in range(3, size + 1):
        many *= 2 * leaves - 3
    return many


def finer_count(tree):
    """How many trees are finer than a tree."""
    many = 1
    for nest in tree[1]:
        many *= tree_count(len(parts(tree, nest)))
    return many


def forked_finer(tree):
    """How many forked trees are finer than a tree."""
    many = 1
    for nest in tree[1]:
        many *= forked_count(len(parts(tree, nest)))
    return many


def with_nest(size, lot):
    """How many trees of a size have a lot for a nest."""
    return tree_count(len(lot)) * tree_count(size - len(lot) + 1)


def forked_with_nest(size, lot):
    """How many forked trees of a size have a lot for a nest."""
    return forked_count(len(lot)) * forked_count(size - len(lot) + 1)


def chance(size, lot):
    """The fraction of all forked trees of a size that have a lot for a nest."""
    return fraction(forked_with_nest(size, lot), forked_count(size))


def mean_pairs(size):
    """How many nests of two leaves the forked trees of a size have in the mean, as a fraction."""
    if size == 1:
        return (0, 1)
    return fraction(comb(size, 2) * forked_with_nest(size, (0, 1)), forked_count(size))


def last_place(tree):
    """The number of the place where the last leaf of a forked tree was put above."""
    last = tree[0] - 1
    # Of both parts of the nest around it the last leaf is the second one.
    beside = parts(tree, above(tree, (last,))[0])[0]
    return tips_and_nests(at(tree, all_leaves(last))).index(beside)


def forked_place(tree):
    """The number of a forked tree among those of its size."""
    need_forked(tree)
    place = 0
    for size in range(3, tree[0] + 1):
        place = (2 * size - 3) * place + last_place(at(tree, all_leaves(size)))
    return place


def nth_forked(size, number):
    """The forked tree of a size with a number."""
    count = forked_count(size)
    if number >= count:
        raise TooFar(count)
    if size < 3:
        return bush(size)
    before, place = divmod(number, 2 * size - 3)
    tree = nth_forked(size - 1, before)
    return put_in(tree, tips_and_nests(tree)[place])


def shape_count(size):
    """How many shapes the trees of a size have."""
    # groups[total] is how many groups of shapes, each of fewer leaves than
    # those that come next, have so many leaves in all.
    groups = [1] * (size + 1)
    shapes = 1
    for leaves in range(2, size + 1):
        shapes = groups[leaves]
        groups = with_shapes(groups, leaves, shapes)
    return shapes


def with_shapes(groups, leaves, shapes):
    """The groups if so many shapes of so many leaves may be in them, too, each any number of times."""
    ways = [comb(shapes + times - 1, times) for times in range(len(groups) // leaves + 1)]
    more = []
    for total in range(len(groups)):
        more.append(sum([ways[times] * groups[total - times * leaves] for times in range(total // leaves + 1)]))
    return more


def forked_shape_count(size):
    """How many shapes the forked trees of a size have."""
    counts = [0, 1]
    for leaves in range(2, size + 1):
        many = sum([counts[part] * counts[leaves - part] for part in range(1, (leaves + 1) // 2)])
        if leaves % 2 == 0:
            # Two parts of as many leaves, in no order.
            many += comb(counts[leaves // 2] + 1, 2)
        counts.append(many)
    return counts[size]


def namings(tree):
    """How many trees have the shape of a tree."""
    return factorial(tree[0]) // symmetries(tree)


def kept_by_line(size):
    """How many trees of a size a line of it keeps."""
    # rows[many] is in how many ways so many leaves, as they stand, are one
    # tree or several ones, side by side: as often one as several.
    counts = [0, 1]
    rows = [0, 1]
    for leaves in range(2, size + 1):
        counts.append(sum([counts[first] * rows[leaves - first] for first in range(1, leaves)]))
        rows.append(2 * counts[leaves])
    return counts[size]


def forked_kept_by_line(size):
    """How many forked trees of a size a line of it keeps."""
    return comb(2 * size - 2, size - 1) // size
