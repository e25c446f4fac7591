"""Signs: states of the leaves, and by how few changes along a tree they come."""

from forktold.bounds import MAX_STATES
from forktold.errors import Cross, Unfit
from forktold.lots import all_leaves, crossing, in_order, is_below, is_leaf
from forktold.nests import parts, tips_and_nests
from forktold.several import cross_of
from forktold.trees import tree_of

# More changes than there can be, for what a signing cannot be.
NEVER = 99


def need_marking(tree, marking):
    """Raise Unfit for a marking that has not as many states as a tree has leaves."""
    if len(marking) != tree[0]:
        raise Unfit()


def is_state(value):
    """Whether a value is a state."""
    return is_below(MAX_STATES, value)


def links(tree):
    """All pairs of a nest and one of its parts."""
    return [(nest, part) for nest in tree[1] for part in parts(tree, nest)]


def of_tips(marking):
    """The states of the tips by a marking."""
    return {(leaf,): state for leaf, state in enumerate(marking)}


def changes(tree, marking, signing):
    """How many changes there are by a marking and a signing."""
    need_marking(tree, marking)
    if len(signing) != len(tree[1]):
        raise Unfit()
    states = of_tips(marking)
    for nest, state in zip(tree[1], signing):
        states[nest] = state
    return len([part for nest, part in links(tree) if states[nest] != states[part]])


def best_of(rows):
    """Of pairs of a number of changes and of signings that have it: the least one, with all its signings."""
    least = min([row[0] for row in rows])
    return (least, sum([row[1] for row in rows if row[0] == least]))


def best_beside(rows, state):
    """The best of a part, its row for each of its states, below a nest that has a state."""
    return best_of([(least + int(own != state), many) for own, (least, many) in enumerate(rows)])


def all_of(rows):
    """The pair of the changes of all rows, and of all ways to take a signing for each."""
    total = 0
    ways = 1
    for least, many in rows:
        total += least
        ways *= many
    return (total, ways)


def best_with(tree, given):
    """The least number of changes by signings that keep given states, and how many have it."""
    rows = {}
    for lot in tips_and_nests(tree):
        inner = parts(tree, lot) if len(lot) > 1 else ()
        rows[lot] = [(NEVER, 0)] * MAX_STATES
        for state in range(MAX_STATES):
            if given.get(lot, state) == state:
                rows[lot][state] = all_of([best_beside(rows[part], state) for part in inner])
    return best_of(rows[all_leaves(tree[0])])


def fewest_changes(tree, marking):
    """The least number of changes for all signings."""
    need_marking(tree, marking)
    return best_with(tree, of_tips(marking))[0]


def signs(tree, marking):
    """A best signing."""
    return first_signs(tree, marking)


def signs_holds(tree, marking, value):
    """Whether a value is a best signing."""
    least = fewest_changes(tree, marking)
    if not isinstance(value, tuple) or len(value) != len(tree[1]):
        return False
    return all([is_state(item) for item in value]) and changes(tree, marking, value) == least


def with_state(given, nest, state):
    """The given states, and one more."""
    more = {lot: given[lot] for lot in given}
    more[nest] = state
    return more


def states_with(tree, given, nest):
    """The states that a nest has by the best of all signings that keep given states."""
    least, _ = best_with(tree, given)
    states = [state for state in range(MAX_STATES) if best_with(tree, with_state(given, nest, state))[0] == least]
    return tuple(states)


def first_signs(tree, marking):
    """The first best signing."""
    need_marking(tree, marking)
    given = of_tips(marking)
    for nest in tree[1]:
        given[nest] = states_with(tree, given, nest)[0]
    return tuple([given[nest] for nest in tree[1]])


def sign_count(tree, marking):
    """How many best signings there are."""
    need_marking(tree, marking)
    return best_with(tree, of_tips(marking))[1]


def choices(tree, marking):
    """For each nest the states that it has by some best signing."""
    need_marking(tree, marking)
    return tuple([states_with(tree, of_tips(marking), nest) for nest in tree[1]])


def apart_ways(tree, marking):
    """As many pairs of a leaf with 0 and one with 1 as can be, no two of whose ways meet."""
    need_marking(tree, marking)
    pairs = []
    # A part lets one leaf through, of the state that more of its own parts
    # let through; none if there are as many of both.
    through = {(leaf,): [leaf] for leaf in all_leaves(tree[0])}
    for nest in tree[1]:
        leaves = [leaf for part in parts(tree, nest) for leaf in through[part]]
        noughts = [leaf for leaf in leaves if marking[leaf] == 0]
        ones = [leaf for leaf in leaves if marking[leaf] == 1]
        pairs.extend(list(zip(noughts, ones)))
        through[nest] = [*noughts[len(ones):], *ones[len(noughts):]][:1]
    return tuple(sorted(pairs))


def way(tree, pair):
    """The way of two leaves."""
    first, second = pair
    return [(nest, part) for nest, part in links(tree) if (first in part) != (second in part)]


def is_apart_pair(marking, value):
    """Whether a value is a pair of a leaf with state 0 and one with state 1."""
    if not isinstance(value, tuple) or len(value) != 2:
        return False
    if not all([is_leaf(len(marking), leaf) for leaf in value]):
        return False
    return marking[value[0]] == 0 and marking[value[1]] == 1


def apart_ways_holds(tree, marking, value):
    """Whether a value is right for apart_ways."""
    least = fewest_changes(tree, marking)
    if not isinstance(value, tuple) or len(value) != least:
        return False
    if not all([is_apart_pair(marking, pair) for pair in value]) or list(value) != sorted(set(value)):
        return False
    steps = [link for pair in value for link in way(tree, pair)]
    return len(steps) == len(set(steps))


def fits(tree, marking):
    """Whether no state comes twice."""
    return fewest_changes(tree, marking) == len(set(marking)) - 1


def leaves_with(marking, state):
    """The lot of the leaves that have a state."""
    return tuple([leaf for leaf, own in enumerate(marking) if own == state])


def lies_between(tree, nest, lot):
    """Whether a nest lies between the leaves of a lot."""
    inner = [leaf for leaf in lot if leaf in nest]
    if inner and len(inner) < len(lot):
        return True
    return len([part for part in parts(tree, nest) if any([leaf in part for leaf in lot])]) > 1


def fit_clash(tree, marking):
    """None if a marking fits, else the first two states and nest that show it does not."""
    need_marking(tree, marking)
    states = sorted(set(marking))
    lots = {state: leaves_with(marking, state) for state in states}
    pairs = [(state, other) for state in states for other in states if state < other]
    for state, other in pairs:
        for nest in tree[1]:
            if lies_between(tree, nest, lots[state]) and lies_between(tree, nest, lots[other]):
                return (state, other, nest)
    return None


def far_side(marking):
    """The lot of the leaves whose state is not that of leaf 0."""
    return tuple([leaf for leaf, state in enumerate(marking) if state != marking[0]])


def joint_tree(size, markings):
    """The tree that the far sides of markings by 0 and 1 tell."""
    for marking in markings:
        if len(marking) != size:
            raise Unfit()
    sides = in_order([far_side(marking) for marking in markings])
    pair = cross_of(sides)
    if pair is not None:
        raise Cross(pair)
    return tree_of(size, sides)


def four_leaves(marking, other):
    """None if two markings by 0 and 1 fit one tree, else four leaves that show they do not."""
    if len(marking) != len(other):
        raise Unfit()
    if not crossing(far_side(marking), far_side(other)):
        return None
    states = list(zip(marking, other))
    return tuple([states.index(pair) for pair in ((0, 0), (0, 1), (1, 0), (1, 1))])
