"""What the tests compare the program with, written apart from it.

Nothing here imports the program. Trees are made leaf by leaf, lots are looked
at as sets, and words are looked up in all trees of a size.
"""

from itertools import combinations, permutations, product


def rank(lot):
    return len(lot), lot


def all_lots(size, least=0):
    """All lots of a size with so many leaves at least, in order."""
    return [lot for many in range(least, size + 1) for lot in combinations(range(size), many)]


def grown(size, nests):
    """The nests of all trees that come from one of a size by one leaf more."""
    def joined(lot):
        return tuple(sorted({*lot, size}))

    for place in [(leaf,) for leaf in range(size)] + nests:
        around = [joined(nest) if set(place) < set(nest) else nest for nest in nests]
        yield [*around, joined(place)]
    for place in nests:
        yield [joined(nest) if set(place) <= set(nest) else nest for nest in nests]


def all_trees(size):
    """All trees of a size, as the document writes them."""
    rows = [[]]
    for leaf in range(1, size):
        rows = [nests for row in rows for nests in grown(leaf, row)]
    return [(size, tuple(sorted(nests, key=rank))) for nests in rows]


def all_words(size):
    """All nearer words of a size, in order."""
    leaves = range(size)
    return [(a, b, c) for a in leaves for b in leaves for c in leaves if a < b and c not in (a, b)]


def tree_has(tree, word):
    a, b, c = word
    return any({a, b} <= set(nest) and c not in nest for nest in tree[1])


def words_of(tree):
    return tuple(word for word in all_words(tree[0]) if tree_has(tree, word))


def subsets(items):
    """All tuples of some of the items, in their order."""
    return [some for many in range(len(items) + 1) for some in combinations(items, many)]


class Keeping:
    """For sets of words: which trees of a size keep them all."""

    def __init__(self, size):
        self.trees = all_trees(size)
        self.words = all_words(size)
        self.everyone = (1 << len(self.trees)) - 1
        self.having = {}
        for word in self.words:
            self.having[word] = sum(1 << at for at, tree in enumerate(self.trees) if tree_has(tree, word))

    def mask(self, words):
        found = self.everyone
        for word in words:
            found &= self.having[word]
        return found

    def keepers(self, words):
        found = self.mask(words)
        return [tree for at, tree in enumerate(self.trees) if found >> at & 1]

    def follows(self, words, word):
        return not self.mask(words) & ~self.having[word]


def slow_is_integer(value):
    return type(value) is int


def slow_is_lot(size, value):
    if type(value) is not tuple or not all(slow_is_integer(item) for item in value):
        return False
    return set(value) <= set(range(size)) and list(value) == sorted(set(value))


def slow_crossing(lot, other):
    first, second = set(lot), set(other)
    return bool(first & second) and not first <= second and not second <= first


def slow_is_sized(value):
    return type(value) is tuple and len(value) == 2 and slow_is_integer(value[0]) and value[0] in range(1, 10)


def slow_tree_error(value):
    if not slow_is_sized(value):
        return "size"
    size, nests = value
    if type(nests) is not tuple:
        return "nests"
    wrong = [at for at, nest in enumerate(nests) if not slow_is_lot(size, nest) or len(nest) < 2]
    if wrong:
        return wrong[0]
    if list(nests) != sorted(set(nests), key=rank):
        return "order"
    pairs = [pair for pair in combinations(range(len(nests)), 2) if slow_crossing(nests[pair[0]], nests[pair[1]])]
    if pairs:
        return min(pairs)
    if size > 1 and tuple(range(size)) not in nests:
        return "all"
    return None


def slow_is_halving(size, value):
    return slow_is_lot(size, value) and 0 not in value and 2 <= len(value) <= size - 2


def slow_web_error(value):
    if not slow_is_sized(value):
        return "size"
    size, halvings = value
    if type(halvings) is not tuple:
        return "halvings"
    wrong = [at for at, halving in enumerate(halvings) if not slow_is_halving(size, halving)]
    if wrong:
        return "halving", wrong[0]
    late = [at for at in range(1, len(halvings)) if rank(halvings[at - 1]) >= rank(halvings[at])]
    if late:
        return "order", late[0]
    pairs = combinations(range(len(halvings)), 2)
    apart = [pair for pair in pairs if slow_crossing(halvings[pair[0]], halvings[pair[1]])]
    if apart:
        return ("cross", *min(apart))
    return None


def all_halvings(size):
    """All halvings of a size, in order."""
    return [lot for lot in all_lots(size) if slow_is_halving(size, lot)]


def all_webs(size):
    """All webs of a size, by halvings that come one behind another."""
    rows = [()]
    for halving in all_halvings(size):
        rows += [(*row, halving) for row in rows if not any(slow_crossing(halving, other) for other in row)]
    return [(size, row) for row in rows]


def forked_webs(size):
    """All forked webs of a size, in order as tuples."""
    return sorted(web for web in all_webs(size) if len(web[1]) == max(0, size - 3))


def rest_of(size, lot):
    """The leaves outside of a lot."""
    return tuple(leaf for leaf in range(size) if leaf not in lot)


def slow_unrooted(tree):
    """The web of the halvings that the nests of a tree make."""
    size, nests = tree
    sides = {rest_of(size, nest) if 0 in nest else nest for nest in nests}
    return size, tuple(lot for lot in all_halvings(size) if lot in sides)


def all_fours(size):
    """All four words of a size, in order."""
    words = [(a, *pair, *other) for a, b, c, d in combinations(range(size), 4)
             for pair, other in (((b,), (c, d)), ((c,), (b, d)), ((d,), (b, c)))]
    return sorted(words)


def web_has(web, word):
    """Whether a web has a four word."""
    rows = [set(word) & set(halving) for halving in web[1]]
    return set(word[:2]) in rows or set(word[2:]) in rows


def fours_of_web(web):
    """All four words of a web, in order."""
    return tuple(word for word in all_fours(web[0]) if web_has(web, word))


def slow_four(pair, other):
    """The four word of two pairs of leaves, each in whatever order."""
    return sum(sorted([tuple(sorted(pair)), tuple(sorted(other))]), ())


def slow_four_fault(size, words):
    """The two rules of F3, looked at word by word."""
    there = set(words)
    for word in sorted(there):
        twins = sorted(other for other in there if set(other) == set(word) and other != word)
        if twins:
            return "two", word, twins[0]
    for a, b, c, d in sorted(there):
        for e in sorted(set(range(size)) - {a, b, c, d}):
            outer = {slow_four((a, b), (c, e)), slow_four((a, b), (d, e))}
            inner = {slow_four((a, e), (c, d)), slow_four((b, e), (c, d))}
            if not outer <= there and not inner <= there:
                return "lacks", (a, b, c, d), e
    return None


def slow_at(tree, lot):
    """What is left of a tree by the leaves of a lot."""
    left = {tuple(lot.index(leaf) for leaf in nest if leaf in lot) for nest in tree[1]}
    return len(lot), tuple(sorted((nest for nest in left if len(nest) > 1), key=rank))


def nests_of(trees):
    """The nests of all trees, in order."""
    return sorted({nest for tree in trees for nest in tree[1]}, key=rank)


def first_crossing(nests):
    """The first pair of nests in order that cross, None if none do."""
    return next((pair for pair in combinations(nests, 2) if slow_crossing(*pair)), None)


def slow_parts(tree, nest):
    """The greatest ones of all nests and tips within a nest, by their least leaves."""
    inner = [lot for lot in [*tree[1], *((leaf,) for leaf in nest)] if set(lot) < set(nest)]
    return sorted(lot for lot in inner if not any(set(lot) < set(other) for other in inner))


def wide_nests(tree):
    """The nests of more than two parts, in order."""
    return [nest for nest in tree[1] if len(slow_parts(tree, nest)) > 2]


def forked_trees(size):
    """All forked trees of a size."""
    return [tree for tree in all_trees(size) if not wide_nests(tree)]


def mixed_tree(size, forked, mixed):
    """A tree by joining two lots at a time, as chance (an object of random.Random) has it."""
    lots, nests = [(leaf,) for leaf in range(size)], {tuple(range(size))} if size > 1 else set()
    while len(lots) > 1:
        first, second = mixed.sample(lots, 2)
        joint = tuple(sorted(first + second))
        lots = [lot for lot in lots if lot not in (first, second)] + [joint]
        if forked or mixed.random() < 0.6:
            nests.add(joint)
    return size, tuple(sorted(nests, key=rank))


def is_together(line, lot):
    """Whether the leaves of a lot stand one behind another in a line."""
    held = [leaf in lot for leaf in line]
    return any(held[at:at + len(lot)] == [True] * len(lot) for at in range(len(line)))


def slow_lines(tree):
    """All lines that keep a tree, in order."""
    return [line for line in permutations(range(tree[0])) if all(is_together(line, nest) for nest in tree[1])]


def lines_of_lot(tree, lot):
    """All orders in which the leaves of a nest or tip stand in lines that keep a tree."""
    if len(lot) == 1:
        return [lot]
    inner = {part: lines_of_lot(tree, part) for part in slow_parts(tree, lot)}
    rows = [chosen for order in permutations(inner) for chosen in product(*(inner[part] for part in order))]
    return [sum(row, ()) for row in rows]


def slow_crossings(line, other):
    """How many pairs of leaves stand one way in one line, the other way in the other one."""
    first, second = ({leaf: at for at, leaf in enumerate(row)} for row in (line, other))
    return sum((first[a] < first[b]) != (second[a] < second[b]) for a, b in combinations(range(len(line)), 2))


def slow_shape(tree, lot):
    """What a nest or tip is without names: the sorted tuple of what its parts are."""
    return tuple(sorted(slow_shape(tree, part) for part in slow_parts(tree, lot))) if len(lot) > 1 else ()


def shape(tree):
    return slow_shape(tree, tuple(range(tree[0])))


def slow_put_in(tree, lot):
    """The tree with one leaf more: beside a nest or tip, otherwise in the least nest around."""
    size, nests = tree
    places = [(leaf,) for leaf in range(size)] + list(nests)
    new = {nest: tuple(sorted({*nest, size})) if set(lot) < set(nest) else nest for nest in nests}
    rows = set(new.values()) | ({(*lot, size)} if lot in places else set())
    return size + 1, tuple(sorted(rows, key=rank))


def slow_renamed(tree, naming):
    """The tree whose leaves have the names that stand at their places."""
    return tree[0], tuple(sorted((tuple(sorted(naming[leaf] for leaf in nest)) for nest in tree[1]), key=rank))


def slow_differs(tree, other):
    return len(set(tree[1]) ^ set(other[1]))


def slow_classes(lot, words):
    """The classes of a lot under words, by joining sets until nothing joins."""
    classes = [{leaf} for leaf in lot]
    for word in words:
        if set(word) <= set(lot):
            touched = [row for row in classes if row & set(word[:2])]
            classes = [row for row in classes if row not in touched] + [set().union(*touched)]
    return sorted(tuple(sorted(row)) for row in classes)


def slow_nests_of_words(lot, words):
    """The nests to which the words lead from a lot, None if there is a clash."""
    if len(lot) < 2:
        return []
    classes = slow_classes(lot, words)
    if len(classes) == 1:
        return None
    nests = [lot]
    for row in classes:
        inner = slow_nests_of_words(row, words)
        if inner is None:
            return None
        nests = nests + inner
    return nests


def slow_is_paper(size, words, value):
    if type(value) is not tuple or len(value) != 2:
        return False
    lot, places = value
    if not slow_is_lot(size, lot) or len(lot) < 3 or not slow_is_lot(len(words), places):
        return False
    chosen = [words[at] for at in places]
    within = all(set(word) <= set(lot) for word in chosen)
    return within and len(places) == len(lot) - 1 and len(slow_classes(lot, chosen)) == 1


def slow_contraries(word):
    same = [other for other in all_words(10) if set(other) == set(word)]
    return [other for other in same if other != word]


def slow_follow_holds(size, words, word, value):
    if type(value) is not tuple or not value or type(value[0]) is not str:
        return False
    if value[0] == "tree" and len(value) == 2:
        tree = value[1]
        if slow_tree_error(tree) is not None or tree[0] != size or tree_has(tree, word):
            return False
        return all(tree_has(tree, other) for other in words)
    if value[0] == "clash" and len(value) == 3:
        papers = zip(slow_contraries(word), value[1:])
        return all(slow_is_paper(size, words + (contrary,), paper) for contrary, paper in papers)
    return False


ODD = (
    None, True, False, 0, 1, -1, 10, 10 ** 399, "", "0", "size", "(0 1)\n", (), [], {}, (0,), (1,), [0, 1],
    (True,), (False, True), {0: 1}, {"a": (0, 1)}, ((),), ([],), (None, None), ((0, 1), (0, 1)),
    (1, ()), (1, []), (1, {}), (True, ()), (0, ()), (10, ()), ("1", ()), (1,), (1, (), ()), [1, ()], (1, None),
    (2, ((0, 1),)), (2, ((0, True),)), (2, ((False, 1),)), (2, ([0, 1],)), (2, [(0, 1)]), (2, (0, 1)),
    (2, ((1, 0),)), (2, ((0, 0),)), (2, ((0, 2),)), (2, ((-1, 0),)), (2, ((),)), (2, ("01",)), (2, "01"),
    (3, ((0, 1, 2), (0, 1))), (3, ((0, 1), (0, 1), (0, 1, 2))), (3, (((0, 1),),)), ((3, ()), ()),
    (4, ((1, 2),)), (4, ((1, 3), (2, 3))), ("tree",), ("tree", None), ("tree", (1, ())), ["tree", (1, ())],
    ("clash",), ("clash", None, None), ("clash", (), ()), ("clash", ((0, 1, 2), (0, 1)), ((0, 1, 2), (0, 1))),
    ((0, 1, 2), (0, 1)), ((0, 1, 2), [0, 1]), ([0, 1, 2], (0, 1)), ((0, 1, 2), (False, True)), ((((((0,),),),),),),
)


def changed(value):
    """Copies of a value, each with one part changed to something near to it."""
    if type(value) is int:
        yield from (value + 1, value - 1, -value - 1, bool(value), str(value), None, (value,), [value])
    elif type(value) is str:
        yield from (value + " ", value[:-1], None, (value,), 0)
    elif type(value) is tuple:
        yield from (list(value), None, (), (value,), value + value, value[::-1], dict.fromkeys(range(len(value))))
        for at, item in enumerate(value):
            yield value[:at] + value[at + 1:]
            yield value[:at] + (item,) + value[at:]
            for other in changed(item):
                yield value[:at] + (other,) + value[at + 1:]
