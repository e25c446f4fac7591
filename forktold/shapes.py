"""Shapes: trees whose leaves have no names."""

from math import factorial

from forktold.nests import parts


def shape_text(tree, lot):
    """The first of the texts that a nest or tip has by any order of parts, each leaf being a nought."""
    if len(lot) == 1:
        return "0"
    return "(" + " ".join(sorted([shape_text(tree, part) for part in parts(tree, lot)])) + ")"


def symmetries(tree):
    """By how many new names of its leaves a tree becomes itself."""
    many = 1
    for nest in tree[1]:
        texts = [shape_text(tree, part) for part in parts(tree, nest)]
        for text in sorted(set(texts)):
            many *= factorial(texts.count(text))
    return many
