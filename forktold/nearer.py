"""Nearer words: of three leaves, which two are nearer to one another."""

from forktold.errors import Clash
from forktold.lots import all_leaves, in_order, is_ascending, is_in, is_lot
from forktold.nests import above, fork, need_forked, parts
from forktold.trees import tree_error


def nearer_words(tree):
    """All words that a tree has, in order."""
    leaves = all_leaves(tree[0])
    words = [(a, b, c) for a in leaves for b in leaves for c in leaves if a < b and c != a and c != b]
    return tuple([word for word in words if has_word(tree, word)])


def has_word(tree, word):
    """Whether some nest has the first two leaves of a word and not the third."""
    first, second, third = word
    return any([first in nest and second in nest and third not in nest for nest in tree[1]])


def has_all(tree, words):
    """Whether a tree keeps words."""
    return all([has_word(tree, word) for word in words])


def make_word(leaf, other, outer):
    """The word of two leaves, in whatever order, nearer than a third one."""
    return (min(leaf, other), max(leaf, other), outer)


def contraries(word):
    """The other two words of the same leaves, in order."""
    first, second, third = sorted(word)
    words = ((first, second, third), (first, third, second), (second, third, first))
    return tuple([other for other in words if other != word])


def tie(lot, words):
    """The classes of a lot under words, and the places of the words that made them.

    A place is taken only if its word ties two classes into one: so the places
    are one fewer than the leaves if one class is left.
    """
    class_of = {leaf: (leaf,) for leaf in lot}
    places = []
    for place, word in enumerate(words):
        first, second = class_of.get(word[0]), class_of.get(word[1])
        if first != second and is_in(word, lot):
            places.append(place)
            joint = tuple(sorted(first + second))
            for leaf in joint:
                class_of[leaf] = joint
    classes = [class_of[leaf] for leaf in lot if class_of[leaf][0] == leaf]
    return classes, tuple(places)


def tree_or_paper(size, words):
    """The pair of the tree of words and None, or of None and a paper."""
    nests = []
    waiting = [all_leaves(size)]
    while waiting:
        lot = waiting.pop()
        if len(lot) > 1:
            classes, places = tie(lot, words)
            if len(classes) == 1:
                return None, (lot, places)
            nests.append(lot)
            waiting.extend(classes)
    return (size, in_order(nests)), None


def tree_of_words(size, words):
    """The tree that words tell by the classes of its lots."""
    tree, paper = tree_or_paper(size, words)
    if paper is not None:
        raise Clash(paper)
    return tree


def clash_holds(size, words, value):
    """Whether a value is a paper: a lot and places of words that tie it together."""
    if not isinstance(value, tuple) or len(value) != 2:
        return False
    lot, places = value
    if not is_lot(size, lot) or len(lot) < 3:
        return False
    if not is_ascending(places, len(words)) or len(places) != len(lot) - 1:
        return False
    # So few words leave one class only if each is within the lot and ties.
    classes, _ = tie(lot, [words[place] for place in places])
    return len(classes) == 1


def word_follows(size, words, word):
    """Whether each tree that keeps words has a word."""
    return follow_paper(size, words, word)[0] == "clash"


def follow_paper(size, words, word):
    """A tree that keeps words without a word, or why there is none."""
    papers = []
    for contrary in contraries(word):
        tree, paper = tree_or_paper(size, (*words, contrary))
        if paper is None:
            return ("tree", tree)
        papers.append(paper)
    return ("clash", *papers)


def follow_holds(size, words, word, value):
    """Whether a value is right for follow_paper."""
    if not isinstance(value, tuple):
        return False
    if len(value) == 2 and value[0] == "tree":
        tree = value[1]
        if tree_error(tree) is not None or tree[0] != size:
            return False
        return has_all(tree, words) and not has_word(tree, word)
    if len(value) == 3 and value[0] == "clash":
        first, second = contraries(word)
        return clash_holds(size, (*words, first), value[1]) and clash_holds(size, (*words, second), value[2])
    return False


def following(size, words):
    """All words that follow from words, in order."""
    # What follows is had by each tree that keeps the words, so by this one.
    tree = tree_of_words(size, words)
    once = tuple(sorted(set(words)))
    return tuple([word for word in nearer_words(tree) if word_follows(size, once, word)])


def word_fault(size, words):
    """None if words are just those of one tree, else what shows they are not."""
    there = {word: True for word in words}
    for word in sorted(there):
        for other in contraries(word):
            if other in there:
                return ("twice", word, other)
    for word in sorted(there):
        for leaf in range(size):
            if leaf not in word and not is_settled(there, word, leaf):
                return ("lacks", word, leaf)
    return None


def is_settled(there, word, leaf):
    """Whether the words that are there tell a word's fourth leaf, outside or inside."""
    first, second, third = word
    if (first, second, leaf) in there:
        return True
    return make_word(first, leaf, third) in there and make_word(second, leaf, third) in there


def telling(tree):
    """As few words as can be that tell a forked tree."""
    need_forked(tree)
    words = []
    for nest in tree[1][:-1]:
        first, second = parts(tree, nest)
        around = above(tree, nest)[0]
        outer = [leaf for leaf in around if leaf not in nest]
        words.append((first[0], second[0], outer[0]))
    return tuple(sorted(words))


def untold(tree, words):
    """The first nest but that of all leaves that no word marks, None if all are marked."""
    need_forked(tree)
    for nest in tree[1][:-1]:
        if not any([marks(tree, word, nest) for word in words]):
            return nest
    return None


def marks(tree, word, nest):
    """Whether a word marks a nest that is not that of all leaves."""
    first, second, third = word
    if fork(tree, (first, second)) != nest:
        return False
    return third in above(tree, nest)[0] and third not in nest


def told_alone(tree, words):
    """Whether a forked tree is the only one that keeps words."""
    return untold(tree, words) is None and has_all(tree, words)
