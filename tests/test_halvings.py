"""E1 to E3, and A2 (c): halvings and webs."""

import copy
import unittest
from itertools import combinations

from forktold.errors import Cross, Unfit
from forktold.halvings import finer_web, go_together, halving_of, is_forked_web, web_error, web_of
from tests.reference import ODD, all_halvings, all_lots, all_webs, changed, rank, slow_web_error, subsets


WEBS = all_webs(5)


class Halvings(unittest.TestCase):
    def test_halving_of(self):
        for size in (1, 2, 3, 4, 5, 6):
            for lot in all_lots(size):
                rest = tuple(leaf for leaf in range(size) if leaf not in lot)
                one = rest if 0 in lot else lot
                expected = one if len(lot) > 1 and len(rest) > 1 else None
                self.assertEqual(halving_of(size, lot), expected)
                self.assertEqual(halving_of(size, rest), expected)
        self.assertEqual(halving_of(9, (0, 8)), (1, 2, 3, 4, 5, 6, 7))
        self.assertEqual(halving_of(9, (1, 2, 3, 4, 5, 6, 7)), (1, 2, 3, 4, 5, 6, 7))
        self.assertIs(halving_of(9, tuple(range(1, 9))), None)

    def test_go_together(self):
        for halving in all_halvings(5):
            for other in all_halvings(5):
                first, second = set(halving), set(other)
                together = first <= second or second <= first or not first & second
                self.assertIs(go_together(halving, other), together)


class Webs(unittest.TestCase):
    def test_web_error_of_webs(self):
        self.assertEqual(len(WEBS), 26)
        for web in WEBS + [(1, ()), (2, ()), (3, ()), (9, ()), (9, ((1, 2), (7, 8), (1, 2, 3, 4, 5, 6)))]:
            self.assertIs(web_error(web), None)

    def test_web_error_of_each_set_of_halvings(self):
        for rows in subsets(all_halvings(5)):
            self.assertEqual(web_error((5, rows)), slow_web_error((5, rows)))

    def test_each_error(self):
        rows = [
            (None, "size"), ((0, ()), "size"), ((10, ()), "size"), ((True, ()), "size"), ([4, ()], "size"),
            ((4,), "size"), ((4, (), ()), "size"), ((4, []), "halvings"), ((4, None), "halvings"),
            ((4, ((1, 2), (0, 1))), ("halving", 1)), ((4, ((1, 2, 3),)), ("halving", 0)), ((4, ((1,),)), ("halving", 0)),
            ((3, ((1, 2),)), ("halving", 0)), ((4, ([1, 2],)), ("halving", 0)), ((4, ((True, 2),)), ("halving", 0)),
            ((5, ((2, 1),)), ("halving", 0)), ((5, ((1, 2, 3), (1, 2), ())), ("halving", 2)),
            ((5, ((1, 2), (1, 2))), ("order", 1)), ((5, ((1, 2), (3, 4), (1, 4))), ("order", 2)),
            ((5, ((1, 2, 3), (1, 2), (1, 2))), ("order", 1)),
            ((6, ((1, 2), (3, 4), (4, 5))), ("cross", 1, 2)), ((6, ((1, 2), (3, 4), (2, 3, 4))), ("cross", 0, 2)),
            ((6, ((1, 2), (1, 3), (2, 3))), ("cross", 0, 1)), ((1, ()), None),
        ]
        for value, error in rows:
            self.assertEqual(repr(web_error(value)), repr(error), value)

    def test_any_value(self):
        rows = list(ODD)
        for web in WEBS + [(1, ()), (2, ()), (4, ((1, 3),)), (6, ((1, 2), (2, 3), (3, 4)))]:
            rows.extend(changed(web))
        for value in rows:
            before = copy.deepcopy(value)
            self.assertEqual(repr(web_error(value)), repr(slow_web_error(value)), value)
            self.assertEqual(value, before)

    def test_web_of(self):
        for rows in subsets(all_halvings(5)):
            lots = tuple(tuple(sorted({0, 1, 2, 3, 4} - set(row))) if 4 in row else row for row in rows)
            for given in (rows, lots[::-1] + rows + ((), (0,), (1, 2, 3, 4), (0, 1, 2, 3, 4))):
                if (5, rows) in WEBS:
                    self.assertEqual(web_of(5, given), (5, rows))
                else:
                    self.check_cross(given, rows)

    def check_cross(self, lots, halvings):
        pairs = [pair for pair in combinations(sorted(halvings, key=rank), 2) if slow_web_error((5, pair))]
        with self.assertRaises(Cross) as caught:
            web_of(5, lots)
        self.assertEqual(caught.exception.pair, pairs[0])

    def test_web_of_small_sizes_and_many_lots(self):
        for size in (1, 2, 3):
            self.assertEqual(web_of(size, tuple(all_lots(size))), (size, ()))
        self.assertEqual(web_of(4, ((0, 1), (2, 3))), (4, ((2, 3),)))
        self.assertEqual(web_of(9, ((0, 1), (7, 8)) * 400), (9, ((7, 8), (2, 3, 4, 5, 6, 7, 8))))
        self.assertEqual(web_of(9, ()), (9, ()))

    def test_pair_of_halvings_not_of_places(self):
        with self.assertRaises(Cross) as caught:
            web_of(6, ((0, 1), (0, 1, 2), (3, 4), (0, 3)))
        self.assertEqual(caught.exception.pair, ((3, 4), (1, 2, 4, 5)))

    def test_is_forked_web(self):
        for web in WEBS:
            finer = [other for other in WEBS if set(web[1]) < set(other[1])]
            self.assertIs(is_forked_web(web), not finer)
        for size in (1, 2, 3):
            self.assertIs(is_forked_web((size, ())), True)
        self.assertIs(is_forked_web((4, ())), False)
        self.assertIs(is_forked_web((4, ((1, 3),))), True)
        self.assertIs(is_forked_web(web_of(9, tuple(tuple(range(1, many)) for many in range(3, 9)))), True)

    def test_finer_web(self):
        for web in WEBS:
            for other in WEBS:
                self.assertIs(finer_web(web, other), set(web[1]) >= set(other[1]))
        for web, other in (((4, ()), (5, ())), ((5, ()), (4, ())), ((1, ()), (9, ()))):
            with self.assertRaises(Unfit) as caught:
                finer_web(web, other)
            self.assertEqual(vars(caught.exception), {})


if __name__ == "__main__":
    unittest.main()
