import copy
import unittest

from roundcalls.tops import is_top, top
from tests import oracle
from tests.examples import ANYTHING, LONG, ONES, SHORT, SIGN, TURNS

VOID = (("void", ()),)
WIDE = (("leaf", 0), ("tree", 3))


class TopTest(unittest.TestCase):
    def test_examples(self):
        self.assertEqual(top(ONES, 1), ("cons", (("one", ()), ("cons", (None, None)))))

    def test_depth_0(self):
        self.assertEqual(top(ONES, 0), ("cons", (None, None)))
        self.assertEqual(top(VOID, 0), ("void", ()))
        self.assertEqual(top((("one", ()),), 0), ("one", ()))
        self.assertEqual(top((("tree", (0, 0, 0)),), 0), ("tree", (None, None, None)))

    def test_deeper_than_the_value(self):
        for depth in range(1, 9):
            self.assertEqual(top(SHORT, depth), ("cons", (("two", ()), ("end", ()))))
            self.assertEqual(top(VOID, depth), ("void", ()))

    def test_void_inside(self):
        self.assertEqual(top((("cons", (1, 0)), ("void", ())), 1), ("cons", (("void", ()), ("cons", (None, None)))))

    def test_every_small_sheet(self):
        for size in (1, 2, 3):
            for sheet in oracle.all_sheets(oracle.SMALL_SIGN, size):
                for depth in range(4):
                    self.assertEqual(top(sheet, depth), oracle.top(sheet, depth))

    def test_other_sheets_of_one_value(self):
        for sheet in (ONES, TURNS, SHORT, LONG):
            for other in oracle.rewritings(sheet):
                for depth in range(6):
                    self.assertEqual(top(other, depth), top(sheet, depth))

    def test_many_nodes(self):
        tree = (("tree", (0, 1, 0)), ("tree", (1, 0, 2)), ("leaf", ()))
        for depth in (5, 6, 8):
            self.assertEqual(top(tree, depth), oracle.top(tree, depth))

    def test_beyond_the_limits(self):
        found = top(ONES, 200)
        for _ in range(200):
            self.assertEqual((found[0], found[1][0]), ("cons", ("one", ())))
            found = found[1][1]
        self.assertEqual(found, ("cons", (None, None)))

    def test_arguments_unchanged(self):
        kept = copy.deepcopy(LONG)
        self.assertEqual(top(LONG, 3), top(LONG, 3))
        self.assertEqual(LONG, kept)

    def test_by_name(self):
        self.assertEqual(top(sheet=ONES, depth=0), ("cons", (None, None)))


def nodes_of(tree):
    """The paths in nested tuples at which tops stand in a top, None included."""
    yield ()
    if tree is not None:
        for at, field in enumerate(tree[1]):
            for path in nodes_of(field):
                yield (1, at) + path


def changed(thing, path, change):
    """Nested tuples in which the item at a path of indexes is changed."""
    if path == ():
        return change(thing)
    return thing[:path[0]] + (changed(thing[path[0]], path[1:], change),) + thing[path[0] + 1:]


class IsTopTest(unittest.TestCase):
    def test_examples(self):
        self.assertEqual([is_top(SIGN, 0, ("cons", (None, None))), is_top(SIGN, 0, ("cons", ()))], [True, False])

    def test_all_tops(self):
        for depth in range(3):
            for thing in oracle.all_tops(oracle.SMALL_SIGN, depth):
                self.assertIs(is_top(oracle.SMALL_SIGN, depth, thing), True, thing)

    def test_tops_to_other_depths(self):
        for thing in oracle.all_tops(oracle.SMALL_SIGN, 2):
            for depth in (0, 1, 2, 3, 8):
                expected = depth == 2 or depth > 2 and "None" not in repr(thing)
                if depth < 2:
                    expected = thing in oracle.all_tops(oracle.SMALL_SIGN, depth)
                self.assertIs(is_top(oracle.SMALL_SIGN, depth, thing), expected, (depth, thing))

    def test_tops_of_values(self):
        for sheet in (ONES, TURNS, SHORT, LONG, VOID):
            for depth in range(9):
                self.assertIs(is_top(SIGN, depth, top(sheet, depth)), True)
                whole = sheet == VOID or sheet == SHORT and depth > 0
                self.assertIs(is_top(SIGN, depth + 1, top(sheet, depth)), whole)

    def test_one_node_is_wrong(self):
        changes = [
            lambda node: node and None, lambda node: node or ("one", ()), lambda node: (), lambda node: "cons",
            lambda node: ("three", ()), lambda node: ("cons", ()), lambda node: ("cons", (("one", ()),)),
            lambda node: ("one", (None,)), lambda node: ("void", (None,)), lambda node: True, lambda node: 0,
            lambda node: node and list(node), lambda node: node and (node[0], list(node[1])),
            lambda node: node and (node[0],), lambda node: node and (node[0], node[1], ()), lambda node: False,
            lambda node: node and ([node[0]], node[1]), lambda node: node and ((node[0],), node[1]),
            lambda node: node and (None, node[1]), lambda node: node and (node[0], None),
            lambda node: node and (node[0], node[1] + (None,)), lambda node: [], lambda node: {},
            lambda node: node and (node[0], dict.fromkeys(node[1])), lambda node: node and (node[0], "ab"),
        ]
        whole = top(TURNS, 3)
        for path in nodes_of(whole):
            for number, change in enumerate(changes):
                thing = changed(whole, path, change)
                self.assertIs(is_top(SIGN, 3, thing), repr(thing) == repr(whole), (path, number))

    def test_other_signatures(self):
        self.assertIs(is_top((), 0, ("void", ())), True)
        self.assertIs(is_top((), 0, ("cons", (None, None))), False)
        self.assertIs(is_top((("cons", 1),), 0, ("cons", (None, None))), False)
        self.assertIs(is_top((("cons", 1),), 0, ("cons", (None,))), True)
        self.assertIs(is_top(SIGN, 2, top((("leaf", ()),), 2)), False)
        self.assertIs(is_top(WIDE, 2, top((("leaf", ()),), 2)), True)

    def test_any_value(self):
        for thing in ANYTHING:
            kept = copy.deepcopy(thing)
            self.assertIs(is_top(SIGN, 0, thing), False)
            self.assertIs(is_top(SIGN, 2, thing), False)
            self.assertIs(is_top(SIGN, 1, ("cons", (("one", ()), thing))), False)
            self.assertIs(is_top(SIGN, 0, ("cons", (None, thing))), thing is None)
            self.assertIs(is_top(SIGN, 0, (thing, ())), thing == "void")
            self.assertIs(is_top(SIGN, 0, ("one", thing)), thing == () and isinstance(thing, tuple))
            self.assertEqual(thing, kept)

    def test_many_nodes(self):
        tree = (("tree", (0, 0, 0)),)
        self.assertIs(is_top(WIDE, 6, top(tree, 6)), True)
        self.assertIs(is_top(WIDE, 8, top(tree, 8)), True)
        self.assertIs(is_top(WIDE, 7, top(tree, 8)), False)

    def test_by_name(self):
        self.assertIs(is_top(signature=SIGN, depth=0, thing=("one", ())), True)
