import copy
import itertools
import unittest

from roundcalls.errors import NoPath
from roundcalls.paths import part_at, tag_at
from roundcalls.walks import Recorder, Walker, walk
from tests import oracle
from tests.examples import ANYTHING, LONG, ONES, SHORT, TURNS

NO_PATHS_IN_ONES = [
    (2,), (-1,), (0, 0), (1, 2), (1, 1, -1), (True,), (False,), (1, False), (None,), ("0",), ((0,),), ([0],), ({},),
    [], [1], [1, 0], {}, "", "1", None, True, False, 0, 1,
]
NO_FIELDS = [2, 3, -1, -2, 10 ** 39, True, False, None, "", "0", (), (0,), [], [0], {}, {0: 0}]


def first_of(number, iterator):
    return list(itertools.islice(iterator, number))


class WalkTest(unittest.TestCase):
    def test_examples(self):
        self.assertEqual(list(walk(SHORT)), [((), "cons"), ((0,), "two"), ((1,), "end")])

    def test_finite_values(self):
        self.assertEqual(list(walk((("void", ()),))), [((), "void")])
        sheet = (("c", (1, 1)), ("c", (2, 3)), ("a", ()), ("b", ()))
        self.assertEqual(list(walk(sheet)), [
            ((), "c"), ((0,), "c"), ((1,), "c"),
            ((0, 0), "a"), ((0, 1), "b"), ((1, 0), "a"), ((1, 1), "b"),
        ])

    def test_infinite_values(self):
        self.assertEqual(first_of(6, walk(TURNS)), [
            ((), "cons"), ((0,), "one"), ((1,), "cons"), ((1, 0), "two"), ((1, 1), "cons"), ((1, 1, 0), "one"),
        ])
        self.assertEqual(len(first_of(2001, walk(ONES))), 2001)
        self.assertEqual(first_of(2001, walk(ONES))[-1], ((1,) * 999 + (1,), "cons"))

    def test_endless_tree(self):
        paths = [path for steps in range(4) for path in itertools.product(range(3), repeat=steps)]
        self.assertEqual(first_of(len(paths), walk((("t", (0, 0, 0)),))), [(path, "t") for path in paths])

    def test_every_small_sheet(self):
        for sheet in oracle.all_sheets(oracle.SMALL_SIGN, 2):
            expected = list(oracle.tags_down_to(sheet, 4).items())
            self.assertEqual(first_of(len(expected), walk(sheet)), expected)

    def test_finite_walks_end(self):
        for sheet in oracle.all_sheets(oracle.SMALL_SIGN, 3):
            nodes = oracle.tags_down_to(sheet, 3)
            if all(len(path) < 3 for path in nodes):
                self.assertEqual(list(walk(sheet)), list(nodes.items()))

    def test_many_nodes(self):
        sheet = tuple(("c", (at + 1, at + 1)) for at in range(59)) + (("a", ()),)
        self.assertEqual(first_of(3, walk(sheet)), [((), "c"), ((0,), "c"), ((1,), "c")])

    def test_several_walks_at_once(self):
        first, second = walk(ONES), walk(TURNS)
        pairs = first_of(50, zip(first, second, walk(ONES)))
        self.assertEqual([item[0] for item in pairs], first_of(50, walk(ONES)))
        self.assertEqual([item[1] for item in pairs], first_of(50, walk(TURNS)))
        self.assertEqual([item[2] for item in pairs], first_of(50, walk(LONG)))

    def test_an_iterator(self):
        steps = walk(ONES)
        self.assertIs(iter(steps), steps)
        self.assertEqual(next(steps), ((), "cons"))
        self.assertEqual(next(steps), ((0,), "one"))

    def test_by_name(self):
        self.assertEqual(next(walk(sheet=ONES)), ((), "cons"))


class Both:
    """What holds of walkers and of recorders."""

    def where(self, walker):
        return walker.path, walker.tag, walker.part

    def check_place(self, walker, sheet, path):
        self.assertEqual(self.where(walker), (path, tag_at(sheet, path), part_at(sheet, path)))

    def test_at_first_at_the_root(self):
        for sheet in (ONES, TURNS, SHORT, LONG, (("void", ()),)):
            self.check_place(self.kind(sheet), sheet, ())
        self.assertEqual(self.kind(LONG).part, ONES)

    def test_attributes_exist_from_creation_on(self):
        self.assertLessEqual(set(self.attributes), set(vars(self.kind(ONES))))

    def test_methods_stand_in_the_class(self):
        for method in self.methods:
            self.assertIn(method, vars(self.kind))

    def test_go(self):
        walker = self.kind(TURNS)
        for path in [(), (1,), (0,), (1, 0), (1,) * 60, (1,) * 59 + (0,), (1, 1), (), (1,) * 5000]:
            self.assertEqual(walker.go(path), path)
            self.check_place(walker, TURNS, path)

    def test_go_starts_at_the_root(self):
        walker = self.kind(TURNS)
        walker.go((1,))
        walker.go((1, 0))
        self.assertEqual(walker.path, (1, 0))
        with self.assertRaises(NoPath):
            walker.go((0, 0))

    def test_down_and_up(self):
        walker = self.kind(TURNS)
        path = ()
        for field in (1, 1, 1, 0):
            path = path + (field,)
            self.assertEqual(walker.down(field), path)
            self.check_place(walker, TURNS, path)
        while path:
            path = path[:-1]
            self.assertEqual(walker.up(), path)
            self.check_place(walker, TURNS, path)

    def test_every_step_in_small_values(self):
        for sheet in oracle.all_sheets(oracle.SMALL_SIGN, 2):
            for path in oracle.nodes_down_to(sheet, 2):
                walker = self.kind(sheet)
                for field in path:
                    walker.down(field)
                self.check_place(walker, sheet, path)
                for field in range(len(sheet[oracle.nodes_down_to(sheet, 2)[path]][1])):
                    walker.down(field)
                    self.check_place(walker, sheet, path + (field,))
                    walker.up()
                self.check_place(walker, sheet, path)

    def check_no_path(self, walker, deed, path):
        before = copy.deepcopy(vars(walker))
        with self.assertRaises(NoPath) as caught:
            deed()
        self.assertEqual(caught.exception.path, path)
        self.assertEqual(repr(caught.exception.path), repr(path))
        self.assertEqual(vars(walker), before)

    def test_go_to_no_path(self):
        for start in [(), (1,), (0,)]:
            walker = self.kind(ONES)
            walker.go(start)
            for path in NO_PATHS_IN_ONES:
                self.check_no_path(walker, lambda: walker.go(path), path)

    def test_go_to_any_value(self):
        walker = self.kind(ONES)
        for thing in ANYTHING:
            if repr(thing) in ("()", "(0,)"):
                self.assertEqual(walker.go(thing), thing)
            else:
                self.check_no_path(walker, lambda: walker.go(thing), thing)

    def test_down_to_no_field(self):
        walker = self.kind(ONES)
        for start in [(), (1,), (1, 1)]:
            walker.go(start)
            for field in NO_FIELDS:
                self.check_no_path(walker, lambda: walker.down(field), start + (field,))

    def test_down_from_a_leaf(self):
        walker = self.kind(ONES)
        walker.go((1, 0))
        for field in [0, 1] + NO_FIELDS:
            self.check_no_path(walker, lambda: walker.down(field), (1, 0, field))

    def test_up_at_the_root(self):
        walker = self.kind(ONES)
        self.check_no_path(walker, walker.up, ())
        walker.down(1)
        walker.up()
        self.check_no_path(walker, walker.up, ())

    def test_start(self):
        for fields in [(), (0,), (1,), (1, 1, 0), (1,) * 60]:
            walker = self.kind.start(TURNS, *fields)
            self.assertIs(type(walker), self.kind)
            self.check_place(walker, TURNS, fields)

    def test_start_at_no_path(self):
        for fields in [(2,), (0, 0), (1, 2), (True,), (1, None), ([],), ({}, 1), ("0",), ((0,),), ((),), (None,)]:
            with self.assertRaises(NoPath) as caught:
                self.kind.start(ONES, *fields)
            self.assertEqual(repr(caught.exception.path), repr(fields))

    def test_start_on_a_subclass(self):
        class Further(self.kind):
            pass

        self.assertIs(type(Further.start(ONES, 1)), Further)

    def test_walkers_are_independent(self):
        first, second = self.kind(ONES), self.kind(ONES)
        first.down(1)
        self.check_place(second, ONES, ())
        second.down(0)
        self.check_place(first, ONES, (1,))

    def test_by_name(self):
        walker = self.kind(sheet=TURNS)
        self.assertEqual(walker.go(path=(1,)), (1,))
        self.assertEqual(walker.down(field=0), (1, 0))
        self.assertEqual(self.kind.start(sheet=TURNS).path, ())

    def test_arguments_unchanged(self):
        sheet, kept = LONG, copy.deepcopy(LONG)
        walker = self.kind.start(sheet, 1, 1)
        walker.down(0)
        walker.up()
        self.assertEqual(sheet, kept)


class WalkerTest(Both, unittest.TestCase):
    kind = Walker
    attributes = ("path", "tag", "part")
    methods = ("start", "go", "down", "up")

    def test_keeps_no_trail(self):
        walker = Walker.start(ONES, 1)
        self.assertFalse(hasattr(walker, "trail") or hasattr(walker, "met"))


class RecorderTest(Both, unittest.TestCase):
    kind = Recorder
    attributes = ("path", "tag", "part", "trail", "met")
    methods = ("go", "down", "up")

    def test_examples(self):
        walker = Recorder.start(ONES, 1, 1)
        self.assertEqual(
            [walker.down(0), walker.up(), walker.trail, walker.met],
            [(1, 1, 0), (1, 1), ((), (1, 1), (1, 1, 0), (1, 1)), 2],
        )

    def test_subclass(self):
        self.assertEqual(Recorder.__bases__, (Walker,))

    def test_at_first(self):
        walker = Recorder(ONES)
        self.assertEqual((walker.trail, walker.met), (((),), 1))

    def test_start_without_fields(self):
        walker = Recorder.start(ONES)
        self.assertEqual((walker.trail, walker.met), (((), ()), 1))

    def test_each_call_adds_one(self):
        walker = Recorder(TURNS)
        trail = [()]
        for deed in [lambda: walker.go((1, 0)), walker.up, lambda: walker.down(1), lambda: walker.go((1, 1)),
                     lambda: walker.go(()), lambda: walker.down(0), walker.up]:
            trail.append(deed())
            self.assertEqual(walker.trail, tuple(trail))
        self.assertEqual(walker.path, walker.trail[-1])

    def test_an_error_adds_none(self):
        walker = Recorder.start(ONES, 0)
        for deed in [lambda: walker.go((2,)), lambda: walker.go([]), lambda: walker.down(0), lambda: walker.down([])]:
            with self.assertRaises(NoPath):
                deed()
            self.assertEqual((walker.trail, walker.met), (((), (0,)), 2))

    def test_met_counts_different_parts(self):
        walker = Recorder(LONG)
        for _ in range(10):
            walker.down(1)
            self.assertEqual(walker.met, 1)
        walker.down(0)
        self.assertEqual(walker.met, 2)
        walker.go((0,))
        self.assertEqual(walker.met, 2)

    def test_met_counts_where_it_stood_only(self):
        walker = Recorder(TURNS)
        walker.go((1, 1, 0))
        self.assertEqual(walker.met, 2)
        walker.go((1, 0))
        self.assertEqual(walker.met, 3)
        walker.up()
        self.assertEqual(walker.met, 4)
        walker.up()
        self.assertEqual(walker.met, 4)

    def test_old_trails_stay(self):
        walker = Recorder(ONES)
        trail = walker.trail
        walker.down(1)
        self.assertEqual(trail, ((),))
        self.assertEqual(walker.trail, ((), (1,)))

    def test_recorders_are_independent(self):
        first, second = Recorder(ONES), Recorder(ONES)
        first.down(0)
        self.assertEqual((second.trail, second.met), (((),), 1))

    def test_long_trails(self):
        walker = Recorder(ONES)
        for _ in range(1000):
            walker.down(1)
        self.assertEqual(walker.trail, tuple((1,) * steps for steps in range(1001)))
