import copy
import itertools
import unittest

from roundcalls.sameness import are_same, pairs_hold, parting_path, same_pairs
from roundcalls.sheets import least_sheet
from tests import oracle
from tests.examples import ANYTHING, LONG, ONES, SHORT, TURNS

PAIRS = ((0, 0), (0, 1), (1, 2))
SMALL = oracle.all_sheets(oracle.SMALL_SIGN, 1) + oracle.all_sheets(oracle.SMALL_SIGN, 2)


def ring(tags):
    """The endless list of b-like nodes with these tags, again and again."""
    return tuple((tag, ((at + 1) % len(tags),)) for at, tag in enumerate(tags))


def chain(length, last):
    return tuple(("b", (at + 1,)) for at in range(length)) + ((last, ()),)


class AreSameTest(unittest.TestCase):
    def test_examples(self):
        self.assertEqual([are_same(ONES, LONG), are_same(ONES, TURNS)], [True, False])

    def test_other_sheets_of_one_value(self):
        self.assertIs(are_same(ring("ab"), ring("ababab")), True)
        self.assertIs(are_same(ring("aaaaa"), ring("aaaaaaa")), True)
        self.assertIs(are_same(ONES, LONG + (("two", ()),)), True)
        self.assertIs(are_same((("cons", (1, 2)), ("one", ()), ("one", ())), (("cons", (1, 1)), ("one", ()))), True)

    def test_different_values(self):
        self.assertIs(are_same(ring("ab"), ring("ba")), False)
        self.assertIs(are_same(ring("aaab"), ring("aaaab")), False)
        self.assertIs(are_same(chain(58, "a"), chain(59, "a")), False)
        self.assertIs(are_same(chain(59, "a"), chain(59, "end")), False)
        self.assertIs(are_same((("con", ()),), (("cons", ()),)), False)
        self.assertIs(are_same((("void", ()),), (("one", ()),)), False)

    def test_every_two_small_sheets(self):
        for sheet, other in itertools.product(SMALL, repeat=2):
            self.assertIs(are_same(sheet, other), oracle.same(sheet, other))

    def test_by_name(self):
        self.assertIs(are_same(sheet=ONES, other=LONG), True)


class PartingPathTest(unittest.TestCase):
    def test_examples(self):
        self.assertEqual(parting_path(ONES, TURNS), (1, 0))

    def test_same_values(self):
        self.assertIsNone(parting_path(ONES, LONG))
        self.assertIsNone(parting_path(ring("ab"), ring("abab")))
        self.assertIsNone(parting_path(SHORT, SHORT))

    def test_at_the_root(self):
        self.assertEqual(parting_path((("con", ()),), (("cons", ()),)), ())
        self.assertEqual(parting_path(ONES, (("one", ()),)), ())

    def test_far_below_the_root(self):
        self.assertEqual(parting_path(chain(59, "a"), chain(59, "end")), (0,) * 59)
        self.assertEqual(parting_path(chain(58, "a"), chain(59, "a")), (0,) * 58)
        self.assertEqual(parting_path(ring("a" * 23 + "b"), ring("a" * 22 + "b")), (0,) * 22)
        # The rings differ first where the shorter one has begun again.
        self.assertEqual(parting_path(ring("aab"), ring("aabaaa")), (0,) * 5)

    def test_least_of_several_of_one_length(self):
        leaves = (("a", ()), ("z", ()))
        first = (("t", (1, 2, 3)), ("t", (4, 4, 4)), ("t", (4, 4, 4)), ("t", (4, 4, 4)), leaves[0])
        for wrong in itertools.product((4, 5), repeat=3):
            for place in (1, 2, 3):
                second = tuple(("t", wrong) if row == place else first[row] for row in range(5)) + leaves[1:]
                expected = (place - 1, wrong.index(5)) if 5 in wrong else None
                self.assertEqual(parting_path(first, second), expected)

    def test_shorter_before_lesser(self):
        first = (("c", (1, 2)), ("c", (2, 2)), ("a", ()))
        second = (("c", (1, 3)), ("c", (3, 2)), ("a", ()), ("z", ()))
        self.assertEqual(parting_path(first, second), (1,))

    def test_a_pair_met_on_two_ways(self):
        first = (("c", (1, 1)), ("c", (2, 3)), ("a", ()), ("a", ()))
        second = (("c", (1, 1)), ("c", (2, 3)), ("a", ()), ("z", ()))
        self.assertEqual(parting_path(first, second), (0, 1))

    def test_every_two_small_sheets(self):
        for sheet, other in itertools.product(SMALL, repeat=2):
            self.assertEqual(parting_path(sheet, other), oracle.parting(sheet, other, 3))

    def test_sheets_of_three_rows(self):
        sheets = oracle.all_sheets(oracle.SMALL_SIGN, 3)
        for at in range(0, len(sheets), 7):
            sheet, other = sheets[at], sheets[(at * 31 + 5) % len(sheets)]
            self.assertEqual(parting_path(sheet, other), oracle.parting(sheet, other, 5))

    def test_twice_the_same(self):
        self.assertEqual(parting_path(ONES, TURNS), parting_path(ONES, TURNS))

    def test_by_name(self):
        self.assertEqual(parting_path(other=TURNS, sheet=ONES), (1, 0))


class SamePairsTest(unittest.TestCase):
    def test_examples(self):
        self.assertEqual(same_pairs(ONES, LONG), PAIRS)

    def test_different_values(self):
        self.assertIsNone(same_pairs(ONES, TURNS))
        self.assertIsNone(same_pairs(chain(59, "a"), chain(59, "end")))
        self.assertIsNone(same_pairs((("con", ()),), (("cons", ()),)))

    def test_rings(self):
        sheet, other = ring("aaaaa"), ring("aaaaaaa")
        self.assertIs(pairs_hold(sheet, other, same_pairs(sheet, other)), True)

    def test_every_two_small_sheets(self):
        for sheet, other in itertools.product(SMALL, repeat=2):
            pairs = same_pairs(sheet, other)
            if oracle.same(sheet, other):
                self.assertTrue(shows(sheet, other, pairs))
                self.assertEqual(pairs, tuple(sorted(set(pairs))))
                self.assertIs(pairs_hold(sheet, other, pairs), True)
            else:
                self.assertIsNone(pairs)

    def test_tuples_throughout(self):
        pairs = same_pairs(ONES, LONG)
        self.assertIsInstance(pairs, tuple)
        for pair in pairs:
            self.assertIsInstance(pair, tuple)

    def test_by_name(self):
        self.assertEqual(same_pairs(sheet=ONES, other=LONG), PAIRS)


def shows(sheet, other, pairs):
    """Point 8, word by word, for pairs of row numbers."""
    return (0, 0) in pairs and all(
        sheet[a][0] == other[b][0]
        and all((sheet[a][1][at], other[b][1][at]) in pairs for at in range(len(sheet[a][1])))
        for a, b in pairs
    )


class PairsHoldTest(unittest.TestCase):
    def test_examples(self):
        self.assertEqual([pairs_hold(ONES, LONG, PAIRS), pairs_hold(ONES, LONG, ((0, 0),))], [True, False])

    def test_every_set_of_pairs_of_small_sheets(self):
        everything = list(itertools.product(range(2), repeat=2))
        sets = [pairs for size in range(5) for pairs in itertools.combinations(everything, size)]
        for sheet, other in itertools.product(SMALL[-64:], repeat=2):
            for pairs in sets:
                self.assertIs(pairs_hold(sheet, other, pairs), shows(sheet, other, pairs))

    def test_a_pair_left_out(self):
        for at in range(3):
            self.assertIs(pairs_hold(ONES, LONG, PAIRS[:at] + PAIRS[at + 1:]), False)

    def test_a_pair_replaced(self):
        for at, pair in itertools.product(range(3), itertools.product(range(3), repeat=2)):
            pairs = PAIRS[:at] + (pair,) + PAIRS[at + 1:]
            self.assertIs(pairs_hold(ONES, LONG, pairs), pairs == PAIRS)

    def test_a_pair_added(self):
        for pair in itertools.product(range(-1, 4), repeat=2):
            if pair not in PAIRS:
                self.assertIs(pairs_hold(ONES, LONG, tuple(sorted(PAIRS + (pair,)))), False, pair)

    def test_a_right_pair_added(self):
        more = ONES + (("two", ()), ("cons", (2, 3)))
        self.assertIs(pairs_hold(more, more, ((0, 0), (1, 1))), True)
        self.assertIs(pairs_hold(more, more, ((0, 0), (1, 1), (2, 2))), True)
        self.assertIs(pairs_hold(more, more, ((0, 0), (1, 1), (2, 2), (3, 3))), True)
        self.assertIs(pairs_hold(more, more, ((0, 0), (1, 1), (3, 3))), False)
        self.assertIs(pairs_hold(more, more, ((0, 0), (0, 3), (1, 1))), False)

    def test_a_pair_doubled(self):
        for at in range(3):
            self.assertIs(pairs_hold(ONES, LONG, PAIRS[:at] + PAIRS[at:at + 1] + PAIRS[at:]), False)

    def test_pairs_exchanged(self):
        for pairs in itertools.permutations(PAIRS):
            self.assertIs(pairs_hold(ONES, LONG, pairs), pairs == PAIRS)

    def test_sides_exchanged(self):
        self.assertIs(pairs_hold(ONES, LONG, ((0, 0), (1, 0), (2, 1))), False)
        self.assertIs(pairs_hold(LONG, ONES, ((0, 0), (1, 0), (2, 1))), True)

    def test_out_of_range(self):
        for number in (-1, -2, 2, 10 ** 39):
            self.assertIs(pairs_hold(ONES, ONES, ((0, 0), (1, number))), False)
            self.assertIs(pairs_hold(ONES, ONES, ((0, 0), (number, 1))), False)
            self.assertIs(pairs_hold(ONES, ONES, tuple(sorted(((0, 0), (1, 1), (number, number))))), False)

    def test_bools(self):
        good = ((0, 0), (1, 1))
        self.assertIs(pairs_hold(ONES, ONES, good), True)
        for at, side in itertools.product(range(2), repeat=2):
            pair = tuple(bool(number) if place == side else number for place, number in enumerate(good[at]))
            self.assertIs(pairs_hold(ONES, ONES, good[:at] + (pair,) + good[at + 1:]), False)

    def test_lists_and_other_shapes(self):
        for thing in [
            list(PAIRS), ([0, 0], (0, 1), (1, 2)), tuple(list(pair) for pair in PAIRS), dict(PAIRS[1:]), (0, 0),
            (), ((),), ((0,),), ((0, 0, 0),), PAIRS + (None,), PAIRS + ((),), PAIRS + ((1, 2, 0),), (PAIRS,), "00",
            (("0", "0"),), ((0, None),), (([0], [0]),), (({}, 0),), None, True, 0,
        ]:
            self.assertIs(pairs_hold(ONES, LONG, thing), False, thing)

    def test_any_value(self):
        for thing in ANYTHING:
            kept = copy.deepcopy(thing)
            self.assertIs(pairs_hold(ONES, LONG, thing), False)
            self.assertIs(pairs_hold(ONES, LONG, PAIRS + (thing,)), False)
            self.assertIs(pairs_hold(ONES, LONG, PAIRS[:2] + ((1, thing),)), False)
            self.assertEqual(thing, kept)

    def test_different_values(self):
        everything = tuple(itertools.product(range(2), range(4)))
        for size in range(len(everything) + 1):
            for pairs in itertools.combinations(everything, size):
                self.assertIs(pairs_hold(ONES, TURNS, pairs), False)

    def test_rows_of_the_given_sheets(self):
        self.assertIs(pairs_hold(LONG, LONG, ((0, 0), (1, 1), (2, 2))), True)
        self.assertIs(pairs_hold(LONG, LONG, ((0, 0), (1, 1))), False)

    def test_by_name(self):
        self.assertIs(pairs_hold(sheet=ONES, other=LONG, thing=PAIRS), True)


class ArgumentsTest(unittest.TestCase):
    def test_unchanged(self):
        kept = copy.deepcopy((ONES, LONG, PAIRS))
        are_same(ONES, LONG), parting_path(ONES, LONG), same_pairs(ONES, LONG), pairs_hold(ONES, LONG, PAIRS)
        self.assertEqual((ONES, LONG, PAIRS), kept)

    def test_independent_of_the_sheets(self):
        for sheet, other in itertools.product(SMALL[::3], SMALL[::5]):
            self.assertEqual(parting_path(sheet, other), parting_path(least_sheet(sheet), least_sheet(other)))
