import copy
import itertools
import unittest

from roundcalls.sheets import is_sheet, least_sheet, node_count, part_count
from tests import oracle
from tests.examples import ANYTHING, LONG, ONES, SHORT, SIGN, TURNS

VOID = (("void", ()),)
THREES = (("leaf", 0), ("tree", 3))


def chain(length, last):
    """A sheet of a chain of b that ends with a row."""
    return tuple(("b", (at + 1,)) for at in range(length)) + (last,)


class IsSheetTest(unittest.TestCase):
    def test_examples(self):
        self.assertEqual([is_sheet(SIGN, ONES), is_sheet(SIGN, (("cons", (0,)),))], [True, False])

    def test_sheets(self):
        for thing in [ONES, TURNS, SHORT, LONG, VOID, (("one", ()),), (("cons", (0, 0)),), (("cons", (1, 1)), VOID[0])]:
            self.assertIs(is_sheet(SIGN, thing), True, thing)
        self.assertIs(is_sheet(THREES, (("tree", (0, 1, 0)), ("leaf", ()))), True)

    def test_unreachable_rows(self):
        self.assertIs(is_sheet(SIGN, (("one", ()), ("cons", (0, 1)), ("two", ()))), True)
        for row in [("cons", (0, 3)), ("cons", ()), ("three", ()), ("one", (0,)), None, ()]:
            self.assertIs(is_sheet(SIGN, (("one", ()), ("two", ()), row)), False, row)

    def test_empty_signature(self):
        self.assertIs(is_sheet((), VOID), True)
        self.assertIs(is_sheet((), VOID * 3), True)
        self.assertIs(is_sheet((), ()), False)
        self.assertIs(is_sheet((), ONES), False)

    def test_no_rows(self):
        self.assertIs(is_sheet(SIGN, ()), False)

    def test_void(self):
        self.assertIs(is_sheet(SIGN, (("void", (0,)),)), False)
        self.assertIs(is_sheet(SIGN, (("cons", (1, 1)), ("void", ()))), True)

    def test_row_numbers(self):
        for field in [-1, 2, 100, 10 ** 39, True, False, None, "0", (0,), [0], {}]:
            self.assertIs(is_sheet(SIGN, (("cons", (field, 1)), ("one", ()))), False, field)
            self.assertIs(is_sheet(SIGN, (("cons", (1, field)), ("one", ()))), False, field)

    def test_numbers_of_fields(self):
        for fields in [(), (0,), (0, 0, 0)]:
            self.assertIs(is_sheet(SIGN, (("cons", fields),)), False, fields)
        self.assertIs(is_sheet(SIGN, (("one", (0,)),)), False)
        self.assertIs(is_sheet(THREES, (("tree", (0, 0)),)), False)

    def test_tags(self):
        for tag in ["three", "Cons", "", None, 0, True, (), ["one"], {}, ("one",)]:
            self.assertIs(is_sheet(SIGN, ((tag, ()),)), False, tag)

    def test_shapes(self):
        for thing in [
            list(ONES), ([*ONES[0]], ONES[1]), (("cons", [0, 0]),), (("one",),), (("one", (), ()),), ("one", ()),
            "one", {"one": ()}, (("one", ()), None), None, 0, True, (("one", None),), (("one", 0),), (("one", ""),),
        ]:
            self.assertIs(is_sheet(SIGN, thing), False, thing)

    def test_any_value(self):
        for thing in ANYTHING:
            kept = copy.deepcopy(thing)
            self.assertIs(is_sheet(SIGN, thing), False)
            self.assertIs(is_sheet((), thing), False)
            self.assertIs(is_sheet(SIGN, (("one", ()), thing)), thing == ("cons", (0, 0)))
            self.assertIs(is_sheet(SIGN, (("cons", (0, thing)),)), thing == 0 and thing is not False)
            self.assertEqual(thing, kept)

    def test_beyond_the_limits(self):
        ring = tuple(("cons", (at, (at + 1) % 3000)) for at in range(3000))
        self.assertIs(is_sheet(SIGN, ring), True)
        self.assertIs(is_sheet(SIGN, ring + (("cons", (0, 3001)),)), False)

    def test_by_name(self):
        self.assertIs(is_sheet(signature=SIGN, thing=ONES), True)
        self.assertIs(is_sheet(thing=ONES, signature=()), False)


class LeastSheetTest(unittest.TestCase):
    def test_examples(self):
        self.assertEqual(least_sheet(LONG), (("cons", (1, 0)), ("one", ())))

    def test_least_ones_stay(self):
        for sheet in [ONES, TURNS, SHORT, VOID, (("cons", (0, 0)),)]:
            self.assertEqual(least_sheet(sheet), sheet)

    def test_unreachable_rows(self):
        self.assertEqual(least_sheet((("one", ()), ("cons", (0, 1)), ("two", ()))), (("one", ()),))
        self.assertEqual(least_sheet((("cons", (3, 0)), ("two", ()), ("cons", (2, 1)), ("one", ()))), ONES)

    def test_copies(self):
        self.assertEqual(least_sheet((("cons", (1, 2)), ("one", ()), ("one", ()))), (("cons", (1, 1)), ("one", ())))
        unrolled = tuple(("cons", (40 + at, (at + 1) % 40)) for at in range(40)) + (("one", ()),) * 40
        self.assertEqual(least_sheet(unrolled), ONES)

    def test_depth_first_order(self):
        sheet = (("tree", (3, 2, 1)), ("leaf", ()), ("tree", (1, 1, 1)), ("tree", (2, 0, 1)))
        least = (("tree", (1, 2, 3)), ("tree", (2, 0, 3)), ("tree", (3, 3, 3)), ("leaf", ()))
        self.assertEqual(least_sheet(sheet), least)

    def test_a_part_is_not_gone_below_again(self):
        sheet = (("c", (1, 2)), ("c", (0, 3)), ("c", (3, 1)), ("a", ()))
        self.assertEqual(least_sheet(sheet), (("c", (1, 3)), ("c", (0, 2)), ("a", ()), ("c", (2, 1))))

    def test_loops_of_two_lengths(self):
        six = tuple((tag, ((at + 1) % 6,)) for at, tag in enumerate("xyxyxy"))
        self.assertEqual(least_sheet(six), (("x", (1,)), ("y", (0,))))
        five = tuple((tag, ((at + 1) % 5,)) for at, tag in enumerate("xyxyx"))
        self.assertEqual(least_sheet(five), five)

    def test_chains(self):
        self.assertEqual(least_sheet(chain(59, ("a", ()))), chain(59, ("a", ())))
        self.assertEqual(least_sheet(chain(59, ("b", (20,)))), (("b", (0,)),))
        self.assertEqual(len(least_sheet(chain(59, ("c", (0, 59))))), 60)

    def test_long_chains(self):
        self.assertEqual(least_sheet(chain(3000, ("a", ()))), chain(3000, ("a", ())))
        self.assertEqual(least_sheet(chain(3000, ("b", (7,)))), (("b", (0,)),))

    def test_every_small_sheet(self):
        for size in (1, 2, 3):
            for sheet in oracle.all_sheets(oracle.SMALL_SIGN, size):
                self.assertEqual(least_sheet(sheet), oracle.least(sheet))

    def test_sheets_of_larger_size(self):
        for sheet in larger_sheets():
            self.assertEqual(least_sheet(sheet), oracle.least(sheet))

    def test_rows_in_another_order(self):
        for order in itertools.permutations(range(1, 4)):
            places = (0,) + order
            rows = {place: row for place, row in zip(places, TURNS)}
            sheet = tuple((rows[at][0], tuple(places[field] for field in rows[at][1])) for at in range(4))
            self.assertEqual(least_sheet(sheet), TURNS)

    def test_twice_the_same(self):
        self.assertEqual(least_sheet(LONG), least_sheet(LONG))
        self.assertEqual(least_sheet(least_sheet(LONG)), least_sheet(LONG))

    def test_tuples_throughout(self):
        least = least_sheet(LONG)
        self.assertIsInstance(least, tuple)
        for row in least:
            self.assertIsInstance(row, tuple)
            self.assertIsInstance(row[1], tuple)
            self.assertTrue(all(type(field) is int for field in row[1]))

    def test_arguments_unchanged(self):
        kept = copy.deepcopy(LONG)
        for function in (least_sheet, part_count, node_count):
            function(LONG)
            self.assertEqual(LONG, kept)

    def test_by_name(self):
        self.assertEqual(least_sheet(sheet=LONG), ONES)


def larger_sheets():
    """Some sheets of 4 to 12 rows, each with several rows that write the same value."""
    sheets = []
    for size in range(4, 13):
        for seed in range(1, 30):
            rows = []
            for at in range(size):
                tag, count = (("a", 0), ("b", 1), ("c", 2), ("b", 1))[(at * seed + seed // 3) % 4]
                rows.append((tag, tuple((at * seed + 3 * at * at + 5 * step + seed) % size for step in range(count))))
            sheets.append(tuple(rows))
    return sheets


class PartCountTest(unittest.TestCase):
    def test_examples(self):
        self.assertEqual([part_count(LONG), part_count(TURNS)], [2, 4])

    def test_counts(self):
        self.assertEqual(part_count(VOID), 1)
        self.assertEqual(part_count((("one", ()), ("two", ()))), 1)
        self.assertEqual(part_count((("cons", (0, 0)),)), 1)
        self.assertEqual(part_count(chain(59, ("a", ()))), 60)

    def test_many_nodes_and_few_parts(self):
        sheet = tuple(("c", (at + 1, at + 1)) for at in range(23)) + (("a", ()),)
        self.assertEqual(part_count(sheet), 24)

    def test_by_name(self):
        self.assertEqual(part_count(sheet=LONG), 2)


class NodeCountTest(unittest.TestCase):
    def test_examples(self):
        self.assertEqual([node_count(SHORT), node_count(ONES)], [3, None])

    def test_finite_values(self):
        self.assertEqual(node_count(VOID), 1)
        self.assertEqual(node_count((("cons", (1, 1)), ("one", ()))), 3)
        self.assertEqual(node_count((("cons", (1, 2)), ("one", ()), ("one", ()))), 3)
        self.assertEqual(node_count(chain(59, ("a", ()))), 60)
        self.assertEqual(node_count((("tree", (1, 2, 1)), ("tree", (2, 2, 2)), ("leaf", ()))), 10)

    def test_infinite_values(self):
        for sheet in [ONES, TURNS, LONG, (("cons", (0, 0)),), (("cons", (1, 2)), ("one", ()), ("cons", (1, 2)))]:
            self.assertIsNone(node_count(sheet))
        self.assertIsNone(node_count(chain(59, ("b", (58,)))))

    def test_unreachable_loops(self):
        self.assertEqual(node_count((("one", ()), ("cons", (1, 0)))), 1)
        self.assertEqual(node_count((("cons", (1, 1)), ("one", ()), ("cons", (0, 2)))), 3)

    def test_many_nodes_and_few_parts(self):
        self.assertEqual(node_count(tuple(("c", (at + 1, at + 1)) for at in range(59)) + (("a", ()),)), 2 ** 60 - 1)
        tree = tuple(("tree", (at + 1, at + 1, at + 1)) for at in range(59)) + (("leaf", ()),)
        self.assertEqual(node_count(tree), (3 ** 60 - 1) // 2)

    def test_long_chains(self):
        self.assertEqual(node_count(chain(3000, ("a", ()))), 3001)
        self.assertIsNone(node_count(chain(3000, ("b", (2999,)))))

    def test_every_small_sheet(self):
        for size in (1, 2, 3):
            for sheet in oracle.all_sheets(oracle.SMALL_SIGN, size):
                # A finite value has no path with as many steps as the sheet has rows.
                paths = oracle.nodes_down_to(sheet, size)
                infinite = any(len(path) == size for path in paths)
                self.assertEqual(node_count(sheet), None if infinite else len(paths))

    def test_by_name(self):
        self.assertEqual(node_count(sheet=SHORT), 3)
