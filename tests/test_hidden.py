import copy
import itertools
import random
import unittest

from roundcalls.hidden import telling_paths, told_back, untold_holds
from roundcalls.sheets import least_sheet, part_count
from tests import oracle
from tests.examples import ANYTHING, LONG, ONES, SHORT, SIGN, TURNS

VOID = (("void", ()),)
CHAINS = (("a", 1), ("b", 1))
WIDE = (("leaf", 0), ("tree", 3))
TOP = ("cons", (("one", ()), ("cons", (("two", ()), ("cons", (None, None))))))


def nodes_of(top):
    """A dict from the paths of a top to its nodes."""
    nodes = {(): top}
    waiting = [()]
    while waiting:
        path = waiting.pop()
        for at, field in enumerate(nodes[path][1]):
            if field is not None:
                nodes[path + (at,)] = field
                waiting.append(path + (at,))
    return nodes


def part(top, path, other):
    """Whether some continuation leads from both paths to nodes of the top whose tags differ."""
    nodes = nodes_of(top)
    mine = {place[len(path):]: node[0] for place, node in nodes.items() if place[:len(path)] == path}
    theirs = {place[len(other):]: node[0] for place, node in nodes.items() if place[:len(other)] == other}
    return any(place in theirs and theirs[place] != tag for place, tag in mine.items())


def shows_none(top, n, paths):
    """Whether paths show that no value with at most n different parts has a top."""
    nodes = nodes_of(top)
    return (
        len(paths) == n + 1
        and list(paths) == sorted(paths, key=lambda path: (len(path), path))
        and all(path in nodes and len(path) <= n for path in paths)
        and all(part(top, path, other) for path, other in itertools.combinations(paths, 2))
    )


def with_a_change(top, path, node):
    if path == ():
        return node
    fields = list(top[1])
    fields[path[0]] = with_a_change(fields[path[0]], path[1:], node)
    return top[0], tuple(fields)


class ToldBackTest(unittest.TestCase):
    def check(self, signature, n, top, expected):
        """Check what is told back, given the value that has this top, or None."""
        word, found = told_back(signature, n, top)
        if expected is not None:
            self.assertEqual((word, found), ("value", expected))
        else:
            self.assertEqual(word, "none", top)
            self.assertTrue(shows_none(top, n, found), (top, found))
            self.assertIs(untold_holds(signature, n, top, found), True)

    def check_all(self, signature, n, tops, sheets):
        values = {oracle.top(sheet, 2 * n - 2): oracle.least(sheet) for sheet in sheets}
        for top in tops:
            self.check(signature, n, top, values.get(top))

    def test_examples(self):
        whole = ("cons", (("one", ()), ("cons", (("one", ()), ("cons", (None, None))))))
        self.assertEqual(told_back(SIGN, 2, whole), ("value", ONES))

    def test_one_part(self):
        for tag, fields in [("void", ()), ("one", ()), ("cons", (0, 0))]:
            self.check(SIGN, 1, oracle.top(((tag, fields),), 0), ((tag, fields),))
        self.check(WIDE, 1, ("tree", (None, None, None)), (("tree", (0, 0, 0)),))

    def test_every_top_for_two_parts(self):
        sheets = oracle.all_sheets(oracle.SMALL_SIGN, 2)
        self.check_all(oracle.SMALL_SIGN, 2, oracle.all_tops(oracle.SMALL_SIGN, 2), sheets)

    def test_every_chain(self):
        for n in (1, 2, 3, 4):
            self.check_all(CHAINS, n, oracle.all_tops(CHAINS, 2 * n - 2), oracle.all_sheets(CHAINS, n))

    def test_every_value_of_three_parts(self):
        sheets = oracle.all_sheets(oracle.SMALL_SIGN, 3)
        self.check_all(oracle.SMALL_SIGN, 3, [oracle.top(sheet, 4) for sheet in sheets], sheets)

    def test_nodes_changed(self):
        chance = random.Random(3)
        for n in (2, 3):
            sheets = oracle.all_sheets(oracle.SMALL_SIGN, n)
            tops = [self.top_with_a_change(sheet, 2 * n - 2, chance) for sheet in sheets[::1 + n // 3]]
            self.check_all(oracle.SMALL_SIGN, n, tops, sheets)

    def top_with_a_change(self, sheet, depth, chance):
        top = oracle.top(sheet, depth)
        path = chance.choice(sorted(nodes_of(top), key=lambda path: (len(path), path)))
        node = chance.choice(oracle.all_tops(oracle.SMALL_SIGN, min(1, depth - len(path))))
        if len(path) + 1 < depth:
            node = ("c", (("a", ()), ("void", ()))) if chance.random() < 0.5 else ("a", ())
        return with_a_change(top, path, node)

    def test_four_parts(self):
        chance = random.Random(4)
        for _ in range(300):
            sheet = tuple(
                ("tree", tuple(chance.randrange(4) for _ in range(3))) if chance.random() < 0.7 else ("leaf", ())
                for _ in range(4)
            )
            self.check(WIDE, 4, oracle.top(sheet, 6), oracle.least(sheet))

    def test_more_parts_than_n(self):
        chance = random.Random(5)
        for _ in range(200):
            sheet = tuple(
                ("tree", tuple(chance.randrange(6) for _ in range(3))) if chance.random() < 0.7 else ("leaf", ())
                for _ in range(6)
            )
            for n in (1, 2, 3, 4):
                word, found = told_back(WIDE, n, oracle.top(sheet, 2 * n - 2))
                if word == "value":
                    self.assertLessEqual(part_count(found), n)
                    self.assertEqual(oracle.top(found, 2 * n - 2), oracle.top(sheet, 2 * n - 2))
                else:
                    self.assertGreater(part_count(sheet), n)
                    self.assertTrue(shows_none(oracle.top(sheet, 2 * n - 2), n, found))

    def test_a_change_at_the_end(self):
        for n in (2, 3, 4):
            for last in [("b", (None,)), ("void", ())]:
                top = with_a_change(oracle.top((("a", (0,)),), 2 * n - 2), (0,) * (2 * n - 2), last)
                self.check(CHAINS, n, top, None)

    def test_void(self):
        for n in (1, 2, 3, 4):
            self.check((), n, ("void", ()), VOID)
            self.check(SIGN, n, ("void", ()), VOID)
        sheet = (("cons", (1, 0)), ("void", ()))
        self.check(SIGN, 2, oracle.top(sheet, 2), sheet)

    def test_arguments_unchanged(self):
        kept = copy.deepcopy(TOP)
        self.assertEqual(told_back(SIGN, 2, TOP), told_back(SIGN, 2, TOP))
        self.assertEqual(TOP, kept)

    def test_by_name(self):
        self.assertEqual(told_back(signature=SIGN, n=1, top=("one", ())), ("value", (("one", ()),)))


class UntoldHoldsTest(unittest.TestCase):
    def test_examples(self):
        self.assertEqual(
            [untold_holds(SIGN, 2, TOP, ((), (0,), (1, 0))), untold_holds(SIGN, 2, TOP, ((), (0,)))], [True, False],
        )

    def test_all_tuples_of_paths(self):
        steps = [path for length in range(4) for path in itertools.product((0, 1), repeat=length)]
        for top in (TOP, oracle.top(TURNS, 2), oracle.top(ONES, 2), ("one", ())):
            for paths in itertools.product(steps, repeat=3):
                self.assertIs(untold_holds(SIGN, 2, top, paths), shows_none(top, 2, paths), paths)

    def test_order(self):
        for paths in itertools.permutations(((), (0,), (1, 0))):
            self.assertIs(untold_holds(SIGN, 2, TOP, paths), paths == ((), (0,), (1, 0)))

    def test_too_few_and_too_many(self):
        for paths in [(), ((),), ((), (0,)), ((), (0,), (1,), (1, 0)), ((), (0,), (0,)), ((), (), (0,))]:
            self.assertIs(untold_holds(SIGN, 2, TOP, paths), False, paths)

    def test_too_long(self):
        top = oracle.top((("a", (1,)), ("a", (2,)), ("a", (3,)), ("b", (3,))), 4)
        self.assertIs(untold_holds(CHAINS, 3, top, ((), (0,), (0, 0), (0, 0, 0))), True)
        self.assertIs(untold_holds(CHAINS, 3, top, ((), (0,), (0, 0), (0, 0, 0, 0))), False)

    def test_not_parted(self):
        self.assertIs(untold_holds(SIGN, 2, TOP, ((), (1,), (1, 0))), True)
        for paths in [((0,), (1,), (1, 0)), ((), (0,), (1, 1)), ((), (1,), (1, 1))]:
            self.assertIs(untold_holds(SIGN, 2, TOP, paths), shows_none(TOP, 2, paths), paths)
        self.assertIs(untold_holds(SIGN, 2, oracle.top(ONES, 2), ((), (0,), (1, 0))), False)

    def test_no_nodes(self):
        for path in [
            (2,), (-1,), (-2,), (0, 0), (1, 2), (1, -1), (1, 1, 0), (1, 1, 0, 0), (1, 0, 0), (1, 0, 0, 0), (10 ** 39,),
        ]:
            self.assertIs(untold_holds(SIGN, 2, TOP, ((), (0,), path)), False, path)

    def test_fields_of_other_kinds(self):
        for path in [
            (True, 0), (True, False), (1, False), (1, None), (1, "0"), (1, (0,)), (1, [0]), ({}, 0), [1, 0], "10",
            None, 0, True, {1: 0}, [], {},
        ]:
            self.assertIs(untold_holds(SIGN, 2, TOP, ((), (0,), path)), False, path)
        for paths in [[(), (0,), (1, 0)], ([], (0,), (1, 0)), ((), [0], (1, 0)), ((), (False,), (1, 0)), {(): 0}]:
            self.assertIs(untold_holds(SIGN, 2, TOP, paths), False, paths)

    def test_one_part_is_always_told_back(self):
        for paths in [((), ()), ((), (0,)), ((), (1,)), ((),), ()]:
            self.assertIs(untold_holds(SIGN, 1, ("cons", (None, None)), paths), False)

    def test_any_value(self):
        for thing in ANYTHING:
            kept = copy.deepcopy(thing)
            self.assertIs(untold_holds(SIGN, 2, TOP, thing), False)
            self.assertIs(untold_holds(SIGN, 2, TOP, ((), (0,), thing)), False)
            self.assertIs(untold_holds(SIGN, 2, TOP, (thing, (0,), (1, 0))), thing == () and isinstance(thing, tuple))
            self.assertIs(untold_holds(SIGN, 2, TOP, ((), (0,), (1, thing))), thing == 0 and thing is not False)
            self.assertEqual(thing, kept)

    def test_by_name(self):
        self.assertIs(untold_holds(signature=SIGN, n=2, top=TOP, thing=()), False)


def tag_or_none(sheet, path):
    row = 0
    for field in path:
        if field >= len(sheet[row][1]):
            return None
        row = sheet[row][1][field]
    return sheet[row][0]


def chain(length):
    return tuple(("a", (at + 1,)) for at in range(length)) + (("end", ()),)


class TellingPathsTest(unittest.TestCase):
    def check(self, *sheets):
        paths = telling_paths(*sheets)
        self.assertIsInstance(paths, tuple)
        values = {least_sheet(sheet) for sheet in sheets}
        self.assertLess(len(paths), len(values))
        self.assertEqual(len({tuple(tag_or_none(sheet, path) for path in paths) for sheet in values}), len(values))
        for path in paths:
            self.assertIsInstance(path, tuple)
            self.assertTrue(all(type(field) is int and field >= 0 for field in path))
        self.assertEqual(telling_paths(*sheets), paths)

    def test_examples(self):
        self.assertEqual(len(telling_paths(ONES, TURNS, LONG)), 1)
        self.check(ONES, TURNS, LONG)

    def test_one_value(self):
        for sheets in [(ONES,), (ONES, LONG), (LONG, ONES, LONG), (VOID,), (VOID, VOID), (TURNS,) * 5]:
            self.assertEqual(telling_paths(*sheets), ())

    def test_every_two_small_values(self):
        small = sorted({oracle.least(sheet) for sheet in oracle.all_sheets(oracle.SMALL_SIGN, 2)})
        for sheets in itertools.product(small, repeat=2):
            self.check(*sheets)

    def test_many_values(self):
        for size in (1, 2, 3):
            self.check(*oracle.all_sheets(oracle.SMALL_SIGN, size)[::1 + size // 3 * 8])

    def test_any_few_values(self):
        chance = random.Random(6)
        sheets = oracle.all_sheets(oracle.SMALL_SIGN, 3)
        for many in (2, 3, 4, 5, 8, 13):
            for _ in range(40):
                self.check(*chance.choices(sheets, k=many))

    def test_chains(self):
        self.check(*[chain(length) for length in range(24)])
        self.check(*[chain(length) for length in range(23, -1, -1)], (("a", (0,)),))
        self.assertEqual(telling_paths(chain(50), chain(59)), ((0,) * 50,))

    def test_parted_only_deep(self):
        rings = [tuple(("b" if at == place else "a", ((at + 1) % 24,)) for at in range(24)) for place in range(24)]
        self.check(*rings)
        self.check(rings[23], (("a", (0,)),))

    def test_a_node_in_exactly_one(self):
        self.check((("a", (1,)), ("end", ())), (("end", ()),))
        self.check(VOID, (("end", ()),), chain(1))

    def test_other_sheets_of_one_value(self):
        for sheet in (ONES, TURNS, SHORT, LONG):
            self.assertEqual(telling_paths(sheet, *oracle.rewritings(sheet)), ())
            self.check(*oracle.rewritings(sheet), *oracle.rewritings(TURNS))

    def test_arguments_unchanged(self):
        kept = copy.deepcopy((LONG, TURNS))
        telling_paths(LONG, TURNS)
        self.assertEqual((LONG, TURNS), kept)
