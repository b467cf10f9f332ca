import copy
import itertools
import unittest

from roundcalls.ordering import compare_values, sort_values
from tests import oracle
from tests.examples import LONG, ONES, SHORT, TURNS

SMALL = oracle.all_sheets(oracle.SMALL_SIGN, 1) + oracle.all_sheets(oracle.SMALL_SIGN, 2)
ONE, TWO, END, VOID = (("one", ()),), (("two", ()),), (("end", ()),), (("void", ()),)


def expected_order(sheet, other):
    path = oracle.parting(sheet, other, 3)
    if path is None:
        return 0
    tags = [oracle.tags_down_to(value, 3)[path] for value in (sheet, other)]
    return -1 if tags[0] < tags[1] else 1


class CompareTest(unittest.TestCase):
    def test_examples(self):
        self.assertEqual([compare_values(ONES, TURNS), compare_values(ONES, LONG)], [-1, 0])

    def test_greater(self):
        self.assertEqual(compare_values(TURNS, ONES), 1)
        self.assertEqual(compare_values(TURNS, LONG), 1)

    def test_void_is_a_tag_like_others(self):
        self.assertEqual([compare_values(TWO, VOID), compare_values(VOID, TWO)], [-1, 1])

    def test_tags_that_begin_alike(self):
        self.assertEqual(compare_values((("con", (0,)),), (("cons", ()),)), -1)
        self.assertEqual(compare_values((("cons", ()),), (("con", (0,)),)), 1)
        self.assertEqual(compare_values((("cont", ()),), (("cons", ()),)), 1)

    def test_lesser_value_with_the_greater_sheet(self):
        # They part at (1,), where the first one is less, though its tuple is the greater one.
        first = (("c", (1, 2)), ("c", (2, 2)), ("a", ()))
        second = (("c", (1, 2)), ("c", (1, 3)), ("b", ()), ("a", ()))
        self.assertGreater(first, second)
        self.assertEqual([compare_values(first, second), compare_values(second, first)], [-1, 1])

    def test_shorter_path_counts_first(self):
        first = (("c", (1, 2)), ("b", (3,)), ("a", ()), ("z", ()))
        second = (("c", (1, 2)), ("b", (2,)), ("z", ()))
        self.assertEqual(compare_values(first, second), -1)

    def test_every_two_small_sheets(self):
        for sheet, other in itertools.product(SMALL, repeat=2):
            self.assertEqual(compare_values(sheet, other), expected_order(sheet, other))

    def test_result_is_an_integer(self):
        for other in (ONES, TURNS):
            self.assertIs(type(compare_values(ONES, other)), int)

    def test_by_name(self):
        self.assertEqual(compare_values(sheet=TURNS, other=ONES), 1)


class SortTest(unittest.TestCase):
    def test_examples(self):
        self.assertEqual([sort_values(TURNS, LONG, ONES) == (ONES, TURNS), sort_values()], [True, ()])

    def test_none_and_one(self):
        self.assertEqual(sort_values(reverse=True), ())
        self.assertEqual(sort_values(LONG), (ONES,))
        self.assertEqual(sort_values(LONG, reverse=True), (ONES,))

    def test_two(self):
        self.assertEqual(sort_values(TWO, ONE), (ONE, TWO))
        self.assertEqual(sort_values(ONE, TWO, reverse=True), (TWO, ONE))
        self.assertEqual(sort_values(ONE, ONE), (ONE,))
        self.assertEqual(sort_values(ONES, LONG, reverse=True), (ONES,))

    def test_any_order_of_the_sheets(self):
        ascending = (ONES, TURNS, SHORT, END, ONE, TWO, VOID)
        self.assertEqual(sort_values(*ascending), ascending)
        for sheets in itertools.permutations(ascending[:5]):
            self.assertEqual(sort_values(*sheets), ascending[:5])
            self.assertEqual(sort_values(*sheets, *sheets, LONG, reverse=True), ascending[4::-1])

    def test_all_small_sheets(self):
        values = sort_values(*SMALL)
        self.assertEqual(set(values), {oracle.least(sheet) for sheet in SMALL})
        self.assertEqual(len(values), len(set(values)))
        for at in range(len(values) - 1):
            self.assertEqual(expected_order(values[at], values[at + 1]), -1)
        self.assertEqual(sort_values(*SMALL, reverse=True), values[::-1])
        self.assertEqual(sort_values(*SMALL[::-1], reverse=False), values)

    def test_arguments_unchanged(self):
        kept = copy.deepcopy((TURNS, LONG))
        first = sort_values(TURNS, LONG)
        compare_values(TURNS, LONG)
        self.assertEqual((TURNS, LONG), kept)
        self.assertEqual(sort_values(TURNS, LONG), first)

    def test_returns_a_tuple(self):
        self.assertIsInstance(sort_values(TURNS, LONG), tuple)
        self.assertIsInstance(sort_values(TURNS, LONG, reverse=True), tuple)
