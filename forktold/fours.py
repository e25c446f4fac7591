"""Four words: of four leaves of a web, which two and two stand together."""

from forktold.bounds import MAX_ROWS
from forktold.errors import NotForked, NoWeb, TooMany
from forktold.halvings import all_halvings, finer_web, go_together
from forktold.lots import all_leaves, is_in, lots_in, outside, rank, with_leaf
from forktold.nests import above, parts
from forktold.roots import beside_first, knots


def make_four(pair, other):
    """The four word of two ascending pairs of leaves."""
    first, second = sorted([pair, other])
    return (*first, *second)


def fours_of(lot):
    """The three four words of a lot of four leaves, in order."""
    a, b, c, d = lot
    return ((a, b, c, d), (a, c, b, d), (a, d, b, c))


def has_four(web, word):
    """Whether some halving has just the first two or just the last two of a word."""
    shared = [tuple([leaf for leaf in word if leaf in halving]) for halving in web[1]]
    return word[:2] in shared or word[2:] in shared


def four_at(web, lot):
    """The four word of four leaves that a web has, None if it has none."""
    for word in fours_of(lot):
        if has_four(web, word):
            return word
    return None


def four_words(web):
    """All four words that a web has, in order."""
    told = [four_at(web, lot) for lot in lots_in(all_leaves(web[0]), 4)]
    return tuple(sorted([word for word in told if word is not None]))


def is_settled(there, word, leaf):
    """Whether the words that are there tell with which two of a word a fifth leaf goes."""
    for pair, ends in ((word[:2], word[2:]), (word[2:], word[:2])):
        if all([make_four(pair, with_leaf((end,), leaf)) in there for end in ends]):
            return True
    return False


def fault_among(leaves, words):
    """None if words are all those of one web of some leaves, else what shows they are not."""
    there = {word: True for word in words}
    for word in sorted(there):
        for other in fours_of(tuple(sorted(word))):
            if other != word and other in there:
                return ("two", word, other)
    for word in sorted(there):
        for leaf in leaves:
            if leaf not in word and not is_settled(there, word, leaf):
                return ("lacks", word, leaf)
    return None


def four_fault(size, words):
    """None if words are all four words of one web, else what shows they are not."""
    return fault_among(all_leaves(size), words)


def is_told(size, halving, there):
    """Whether each two leaves of a halving and each two others make a word that is there."""
    inner = lots_in(halving, 2)
    outer = lots_in(outside(size, halving), 2)
    return all([make_four(pair, other) in there for pair in inner for other in outer])


def web_of_fours(size, words):
    """The web whose four words are just the words."""
    error = four_fault(size, words)
    if error is not None:
        raise NoWeb(error)
    there = {word: True for word in words}
    return (size, tuple([halving for halving in all_halvings(size) if is_told(size, halving, there)]))


def bad_five(size, words):
    """The first four or five leaves whose words are not those of a web, None if there are none."""
    leaves = all_leaves(size)
    for lot in [*lots_in(leaves, 4), *lots_in(leaves, 5)]:
        if fault_among(lot, [word for word in words if is_in(word, lot)]) is not None:
            return lot
    return None


def goes_behind(row, halving):
    """Whether a halving can stand behind others in a web."""
    return all([rank(other) < rank(halving) and go_together(other, halving) for other in row])


def forked_webs(size):
    """All forked webs of a size, in order as tuples."""
    halvings = all_halvings(size)
    rows = [()]
    for _ in range(size - 3):
        rows = [(*row, halving) for row in rows for halving in halvings if goes_behind(row, halving)]
    return sorted([(size, row) for row in rows])


def webs_with(size, words):
    """All forked webs of a size that have all of the words."""
    if size > MAX_ROWS:
        raise TooMany(MAX_ROWS)
    once = {word: True for word in words}
    return tuple([web for web in forked_webs(size) if all([has_four(web, word) for word in once])])


def other_web(web, words):
    """A forked web that has all the words and is not finer than a web, None if there is none."""
    for other in webs_with(web[0], words):
        if not finer_web(other, web):
            return other
    return None


def enough(web, words):
    """Whether each web that has all the words is finer than a web."""
    return other_web(web, words) is None


def least_four(tree, nest):
    """The four word of leaf 0 that a nest makes, with the least leaves around."""
    first, second = parts(tree, nest)
    beside = [leaf for leaf in above(tree, nest)[0] if leaf not in nest]
    return (0, beside[0], first[0], second[0])


def least_fours(web):
    """As few four words as are enough for a forked web, one for each halving."""
    for knot in knots(web):
        if len(knot) > 3:
            raise NotForked(knot)
    tree = beside_first(web)
    return tuple([least_four(tree, halving) for halving in web[1]])
