"""The interface: bounds, errors, names and arguments, and A3's conventions."""

import importlib
import inspect
import unittest

from forktold import bounds, errors
from forktold.trees import bush

BOUNDS = {
    "MAX_LEAVES": 9, "MAX_LOTS": 600, "MAX_WORDS": 300, "MAX_TREES": 12, "MAX_MIDDLES": 200, "MAX_STATES": 6,
    "MAX_ROWS": 6, "MAX_LINES": 300, "MAX_COUNT": 200, "MAX_MAPS": 5040, "MAX_EDITS": 40, "BATCH": 12,
}

ERRORS = {
    "Unfit": [], "TooMany": ["limit"], "BadText": ["place"], "Cross": ["pair"], "Clash": ["paper"],
    "NotForked": ["nest"], "NoWeb": ["error"], "NotNest": ["lot"], "NotOrder": ["place"], "TooFar": ["count"],
    "BadMap": [], "NotTree": ["error"], "NotLeaf": ["value"], "NotLot": ["value"], "BadBatch": [],
    "Rejected": ["index"], "TooManyEdits": [], "NothingToUndo": [], "NothingToRedo": [], "NoVersion": ["given"],
    "Changed": ["lot"],
}

FUNCTIONS = {
    "lots": "is_lot(size, value) crossing(lot, other) in_order(lots)",
    "trees": "tree_error(value) tree_of(size, lots) bush(size) comb(size) under(trees)",
    "texts": "tree_text(tree) parse_tree(value)",
    "nests": "parts(tree, nest) fork(tree, lot) above(tree, lot) is_forked(tree) level(tree, leaf) "
             "least_leaves(tree) at(tree, lot) without(tree, leaf) finer(tree, other) finer_pair(tree, other) "
             "common(tree, other)",
    "nearer": "nearer_words(tree) has_word(tree, word) contraries(word) tree_of_words(size, words) "
              "clash_holds(size, words, value) word_follows(size, words, word) follow_paper(size, words, word) "
              "follow_holds(size, words, word, value) following(size, words) word_fault(size, words) "
              "telling(tree) untold(tree, words) told_alone(tree, words)",
    "halvings": "halving_of(size, lot) go_together(halving, other) web_error(value) web_of(size, lots) "
                "is_forked_web(web) finer_web(web, other)",
    "roots": "rooted(web, leaf) web_of_tree(tree) unrooted(tree) all_rooted(web) knots(web)",
    "fours": "four_words(web) has_four(web, word) four_at(web, lot) four_fault(size, words) web_of_fours(size, words) "
             "bad_five(size, words) webs_with(size, words) other_web(web, words) enough(web, words) least_fours(web)",
    "several": "support(trees, lot) in_all(trees) in_most(trees) not_against(trees) at_least(trees, many) "
               "by_support(trees) crossing_pair(trees) together(trees) differing(tree, other) differs(tree, other) "
               "spread(trees, tree) least_spread(trees) is_middle(trees, value) middle_count(trees) middles(trees)",
    "agree": "clash_threes(trees) hard_threes(trees) is_agreement(trees, lot) agreed_tree(trees, lot) "
             "agreements(trees) greatest_agreement(trees) fits(trees, lot) fittings(trees) fitted_tree(trees, lot) "
             "agree_number(tree, other, lot, further) agreement_table(tree, other) distance(tree, other)",
    "signs": "changes(tree, marking, signing) fewest_changes(tree, marking) signs(tree, marking) "
             "signs_holds(tree, marking, value) first_signs(tree, marking) sign_count(tree, marking) "
             "choices(tree, marking) apart_ways(tree, marking) apart_ways_holds(tree, marking, value) "
             "fits(tree, marking) fit_clash(tree, marking) joint_tree(size, markings) four_leaves(marking, other)",
    "lines": "keeps_line(tree, value) line_count(tree) nth_line(tree, number) line_place(tree, line) "
             "common_line(size, trees) bar(size, trees) bar_holds(size, trees, value) turned(tree, line, nest) "
             "turns_between(tree, line, last)",
    "sides": "crossings(line, other) turn_costs(tree, line) least_crossings(tree, line) untangled(tree, line) "
             "facing(tree, other)",
    "counts": "tree_count(size) forked_count(size) finer_count(tree) forked_finer(tree) with_nest(size, lot) "
              "forked_with_nest(size, lot) chance(size, lot) mean_pairs(size) forked_place(tree) "
              "nth_forked(size, number) shape_count(size) forked_shape_count(size) namings(tree) kept_by_line(size) "
              "forked_kept_by_line(size)",
    "moves": "put_in(tree, lot) take_out(tree, leaf) merged(tree, nest) split(tree, lot) steps(tree, other) "
             "steps_error(tree, other, value) turns(tree) row_of_turns(tree, other) cut_and_put(tree, lot, place)",
    "renames": "renamed(tree, naming) renamings(tree, other) same_shape(tree, other) normal(tree)",
}

TREE = (4, ((0, 1), (0, 1, 2), (0, 1, 2, 3)))
WORDS = ((0, 1, 2), (1, 2, 3))
OTHER = (4, ((0, 1), (2, 3), (0, 1, 2, 3)))
TREES = (TREE, OTHER, TREE, OTHER)
WEB = (5, ((1, 2), (1, 2, 3)))
FOURS = ((0, 3, 1, 2), (0, 4, 1, 2), (0, 4, 1, 3), (0, 4, 2, 3), (1, 2, 3, 4))
MARKING = (0, 1, 0, 1)
LINE = (3, 2, 1, 0)
APART = tuple((4, (nest, (0, 1, 2, 3))) for nest in ((0, 1), (0, 2), (0, 3)))
# By the names of functions, and with its module ahead where two have one name.
CALLS = {
    "is_lot": (4, (0, 1)), "crossing": ((0, 1), (1, 2)), "in_order": (((0, 1), (1,)),), "tree_error": (TREE,),
    "tree_of": (4, ((0, 1),)), "bush": (4,), "comb": (4,), "under": ((TREE, TREE),), "tree_text": (TREE,),
    "parse_tree": ("((0 1) 2)",), "parts": (TREE, (0, 1)), "fork": (TREE, (0, 2)), "above": (TREE, (0, 1)),
    "is_forked": (TREE,), "level": (TREE, 1), "least_leaves": (TREE,), "at": (TREE, (0, 2)),
    "without": (TREE, 1), "finer": (TREE, TREE), "finer_pair": (TREE, TREE), "common": (TREE, TREE),
    "nearer_words": (TREE,), "has_word": (TREE, (0, 1, 2)), "contraries": ((0, 1, 2),),
    "tree_of_words": (4, WORDS), "clash_holds": (4, WORDS, ((0, 1, 2), (0, 1))),
    "word_follows": (4, WORDS, (0, 1, 3)), "follow_paper": (4, WORDS, (0, 1, 3)),
    "follow_holds": (4, WORDS, (0, 1, 3), ("tree", TREE)), "following": (4, WORDS), "word_fault": (4, WORDS),
    "telling": (TREE,), "untold": (TREE, WORDS), "told_alone": (TREE, WORDS), "halving_of": (4, (0, 1)),
    "go_together": ((1, 2), (2, 3)), "web_error": ((4, ((1, 2),)),), "web_of": (4, ((0, 1),)),
    "is_forked_web": ((4, ((1, 2),)),), "finer_web": ((4, ((1, 2),)), (4, ())),
    "rooted": (WEB, 1), "web_of_tree": (TREE,), "unrooted": (TREE,), "all_rooted": (WEB,), "knots": (WEB,),
    "four_words": (WEB,), "has_four": (WEB, (0, 3, 1, 2)), "four_at": (WEB, (0, 1, 2, 3)),
    "four_fault": (5, FOURS[:1]), "web_of_fours": (5, FOURS), "bad_five": (5, FOURS[1:]), "webs_with": (5, FOURS[:1]),
    "other_web": (WEB, FOURS[:1]), "enough": (WEB, FOURS[:1]), "least_fours": (WEB,), "support": (TREES, (0, 1)),
    "in_all": (TREES,), "in_most": (TREES,), "not_against": (TREES,), "at_least": (TREES, 3), "by_support": (TREES,),
    "crossing_pair": (TREES,), "together": (TREES[::2],), "differing": (TREE, OTHER), "differs": (TREE, OTHER),
    "spread": (TREES, TREE), "least_spread": (TREES,), "is_middle": (TREES, TREE), "middle_count": (TREES,),
    "middles": (TREES,), "clash_threes": (TREES,), "hard_threes": (TREES,), "is_agreement": (TREES, (0, 1, 2)),
    "agreed_tree": (TREES, (0, 1, 2)), "agreements": (TREES,), "greatest_agreement": (TREES,),
    "fits": (TREES, (0, 1, 2)), "fittings": (TREES,), "fitted_tree": (TREES, (0, 1, 2)),
    "agree_number": (TREE, OTHER, (0, 1, 2), (2, 3)), "agreement_table": (TREE, OTHER), "distance": (TREE, OTHER),
    "changes": (TREE, MARKING, (0, 1, 0)), "fewest_changes": (TREE, MARKING), "signs": (TREE, MARKING),
    "signs_holds": (TREE, MARKING, (0, 0, 0)), "first_signs": (TREE, MARKING), "sign_count": (TREE, MARKING),
    "choices": (TREE, MARKING), "apart_ways": (TREE, MARKING), "apart_ways_holds": (TREE, MARKING, ((0, 1), (2, 3))),
    "signs.fits": (TREE, MARKING), "fit_clash": (TREE, MARKING), "joint_tree": (4, (MARKING, MARKING[::-1])),
    "four_leaves": (MARKING, (0, 0, 1, 1)), "keeps_line": (TREE, LINE), "line_count": (TREE,), "nth_line": (TREE, 5),
    "line_place": (TREE, LINE), "common_line": (4, TREES), "bar": (4, APART), "bar_holds": (4, APART, APART[0][1]),
    "turned": (TREE, LINE, (0, 1, 2)), "turns_between": (TREE, LINE, (0, 1, 2, 3)), "crossings": (LINE, (2, 0, 1, 3)),
    "turn_costs": (TREE, (2, 3, 0, 1)), "least_crossings": (TREE, (0, 3, 1, 2)), "untangled": (TREE, (0, 3, 1, 2)),
    "facing": (TREE, OTHER), "tree_count": (200,), "forked_count": (200,), "finer_count": (bush(5),),
    "forked_finer": (bush(5),), "with_nest": (200, (0, 199)), "forked_with_nest": (5, (1, 3)), "chance": (5, (1, 3)),
    "mean_pairs": (200,), "forked_place": (TREE,), "nth_forked": (9, 2027024), "shape_count": (20,),
    "forked_shape_count": (200,), "namings": (TREE,), "kept_by_line": (200,), "forked_kept_by_line": (200,),
    "put_in": (TREE, (0, 2)), "take_out": (TREE, 1), "merged": (TREE, (0, 1)), "split": (OTHER, (0, 1)),
    "steps": (TREE, OTHER), "steps_error": (TREE, OTHER, (TREE, OTHER)), "turns": (TREE,),
    "row_of_turns": (TREE, OTHER), "cut_and_put": (TREE, (0, 1), (3,)), "renamed": (TREE, LINE),
    "renamings": (TREE, TREE), "same_shape": (TREE, OTHER), "normal": (OTHER,),
}


def listed():
    """Each function of the interface so far: module, name and arguments."""
    for module, row in FUNCTIONS.items():
        for told in row.replace(") ", ")\n").split("\n"):
            name, _, arguments = told.rstrip(")").partition("(")
            yield module, name, arguments.split(", ")


def found(module, name):
    return getattr(importlib.import_module("forktold." + module), name)


def has_list(value):
    """Whether a result has a list or a dict in it."""
    if isinstance(value, tuple):
        return any(has_list(item) for item in value)
    return isinstance(value, (list, dict, set))


class Bounds(unittest.TestCase):
    def test_bounds(self):
        self.assertEqual({name: getattr(bounds, name) for name in BOUNDS}, BOUNDS)


class Errors(unittest.TestCase):
    def test_bases(self):
        self.assertEqual(errors.ForkError.__bases__, (ValueError,))
        for name in ERRORS:
            self.assertEqual(getattr(errors, name).__bases__, (errors.ForkError,), name)

    def test_defined_here(self):
        for name in [*ERRORS, "ForkError"]:
            self.assertEqual(getattr(errors, name).__module__, "forktold.errors")

    def test_kept_by_place_and_by_name(self):
        for name, arguments in ERRORS.items():
            for value in (None, True, 7, 10 ** 399, "x" * 3000, ((0, 1), [2]), {"a": {}}, []):
                made = [getattr(errors, name)(*[value] * len(arguments))]
                made.append(getattr(errors, name)(**dict.fromkeys(arguments, value)))
                for error in made:
                    with self.subTest(name=name, value=value):
                        self.assertEqual(list(vars(error)), arguments)
                        for argument in arguments:
                            self.assertIs(getattr(error, argument), value)
                        self.assertIsInstance(str(error), str)

    def test_wrong_number_of_arguments(self):
        for name, arguments in ERRORS.items():
            if arguments:
                with self.assertRaises(TypeError):
                    getattr(errors, name)()


class Classes(unittest.TestCase):
    def test_defined_where_listed(self):
        for module, names in (("boards", ("Board", "KeptBoard")), ("shells", ("Shell",)), ("errors", ERRORS)):
            for name in names:
                self.assertTrue(inspect.isclass(found(module, name)))
                self.assertEqual(found(module, name).__module__, "forktold." + module)

    def test_arguments(self):
        for module, name, arguments in (("boards", "Board", ["value"]), ("boards", "KeptBoard", ["value"]), ("shells", "Shell", [])):
            parameters = inspect.signature(found(module, name)).parameters
            self.assertEqual(list(parameters), arguments)
            self.assertTrue(all(parameter.default is parameter.empty for parameter in parameters.values()))


class Functions(unittest.TestCase):
    def test_defined_where_listed(self):
        for module, name, _ in listed():
            function = found(module, name)
            self.assertTrue(inspect.isfunction(function), name)
            self.assertEqual(function.__module__, "forktold." + module)

    def test_arguments(self):
        for module, name, arguments in listed():
            parameters = inspect.signature(found(module, name)).parameters
            self.assertEqual(list(parameters), arguments, name)
            for parameter in parameters.values():
                self.assertEqual(parameter.kind, parameter.POSITIONAL_OR_KEYWORD)
                self.assertIs(parameter.default, parameter.empty)

    def test_by_place_and_by_name_with_equal_results(self):
        used = []
        for module, name, arguments in listed():
            key = module + "." + name if module + "." + name in CALLS else name
            used.append(key)
            function, values = found(module, name), CALLS[key]
            first = function(*values)
            self.assertEqual(repr(function(*values)), repr(first), name)
            self.assertEqual(repr(function(**dict(zip(arguments, values)))), repr(first), name)
            self.assertFalse(has_list(first), name)
        self.assertEqual(sorted(CALLS), sorted(used))


if __name__ == "__main__":
    unittest.main()
