import copy
import itertools
import unittest

from roundcalls.edits import rename_tags, replace_at, replace_everywhere
from roundcalls.errors import NoPath
from roundcalls.paths import part_at
from roundcalls.sheets import least_sheet
from tests import oracle
from tests.examples import LONG, ONES, SHORT, TURNS

VOID = (("void", ()),)
END = (("end", ()),)
ONE, TWO = (("one", ()),), (("two", ()),)
SMALL = oracle.all_sheets(oracle.SMALL_SIGN, 1) + oracle.all_sheets(oracle.SMALL_SIGN, 2)
OTHERS = [
    VOID, (("a", ()),), (("b", (0,)),), (("c", (0, 1)), ("a", ())), (("c", (1, 0)), ("b", (1,))),
    (("b", (1,)), ("c", (0, 0)), ("a", ())),
]
DEPTH = 4


def tags_with(sheet, path, other):
    """The tags down to a depth of a value in which another value stands at a path."""
    tags = {place: tag for place, tag in oracle.tags_down_to(sheet, DEPTH).items() if place[:len(path)] != path}
    for place, tag in oracle.tags_down_to(other, DEPTH - len(path)).items():
        tags[path + place] = tag
    return tags


def tags_with_everywhere(sheet, part, other):
    """The tags down to a depth of a value in which all parts of a kind are replaced."""
    tags = {}
    level = {(): 0}
    while level:
        following = {}
        for path, row in level.items():
            if oracle.same(oracle.rerooted(sheet, row), part):
                for place, tag in oracle.tags_down_to(other, DEPTH - len(path)).items():
                    tags[path + place] = tag
            else:
                tags[path] = sheet[row][0]
                for at, field in enumerate(sheet[row][1]):
                    if len(path) < DEPTH:
                        following[path + (at,)] = field
        level = following
    return tags


class Edits(unittest.TestCase):
    def check(self, found, tags):
        self.assertEqual(found, oracle.least(found))
        self.assertEqual(oracle.tags_down_to(found, DEPTH), tags)


class ReplaceAtTest(Edits):
    def test_examples(self):
        self.assertEqual(replace_at(ONES, (1,), END), (("cons", (1, 2)), ("one", ()), ("end", ())))

    def test_every_small_sheet(self):
        for sheet in SMALL:
            for path in oracle.nodes_down_to(sheet, 2):
                for other in OTHERS:
                    self.check(replace_at(sheet, path, other), tags_with(sheet, path, other))

    def test_root(self):
        for sheet, other in itertools.product((ONES, TURNS, SHORT, LONG, VOID), repeat=2):
            self.assertEqual(replace_at(sheet, (), other), least_sheet(other))

    def test_around_loops(self):
        self.assertEqual(replace_at(ONES, (1, 1, 1), END), (
            ("cons", (1, 2)), ("one", ()), ("cons", (1, 3)), ("cons", (1, 4)), ("end", ()),
        ))
        for steps in (1, 2, 7, 60):
            found = replace_at(TURNS, (1,) * steps + (0,), END)
            self.assertEqual(part_at(found, (1,) * steps + (0,)), END)
            self.assertEqual(part_at(found, (1,) * (steps + 1)), part_at(TURNS, (1,) * (steps + 1)))
            self.assertEqual(len(found), len(TURNS) + steps + 2 - (steps == 0))

    def test_a_part_into_itself(self):
        for path in [(), (1,), (1, 1), (1, 0)]:
            self.assertEqual(replace_at(TURNS, path, part_at(TURNS, path)), TURNS)
        self.assertEqual(replace_at(ONES, (1, 1), LONG), ONES)
        self.assertEqual(replace_at(SHORT, (1,), SHORT), (
            ("cons", (1, 2)), ("two", ()), ("cons", (1, 3)), ("end", ()),
        ))

    def test_void(self):
        self.assertEqual(replace_at(ONES, (0,), VOID), (("cons", (1, 2)), ("void", ()), ("cons", (3, 2)), ("one", ())))
        self.assertEqual(replace_at(VOID, (), ONES), ONES)

    def test_other_sheets_of_one_value(self):
        for sheet, other in itertools.product((ONES, TURNS, SHORT, LONG), repeat=2):
            for path in [(), (0,), (1,)]:
                found = replace_at(sheet, path, other)
                for again in oracle.rewritings(sheet):
                    for further in oracle.rewritings(other):
                        self.assertEqual(replace_at(again, path, further), found)

    def test_no_path(self):
        for path in [
            (2,), (-1,), (10 ** 39,), (0, 0), (1, 0, 0), (1, 2), (1, -1), (True,), (False,), (1, True), (True, 0),
            (False, 1), (1, 1, False), (1,) * 59 + (2,), (0,) * 60, (1, None), ("1",),
        ]:
            with self.assertRaises(NoPath) as caught:
                replace_at(ONES, path, END)
            self.assertEqual(repr(caught.exception.path), repr(path))
        with self.assertRaises(NoPath):
            replace_at(VOID, (0,), END)

    def test_long_paths(self):
        found = replace_at(ONES, (1,) * 500, END)
        self.assertEqual(len(found), 502)
        self.assertEqual(part_at(found, (1,) * 500), END)

    def test_arguments_unchanged(self):
        kept = copy.deepcopy((LONG, SHORT))
        self.assertEqual(replace_at(LONG, (1,), SHORT), replace_at(LONG, (1,), SHORT))
        self.assertEqual((LONG, SHORT), kept)

    def test_by_name(self):
        self.assertEqual(replace_at(sheet=ONES, path=(), other=END), END)


class ReplaceEverywhereTest(Edits):
    def test_examples(self):
        self.assertEqual(replace_everywhere(TURNS, TWO, ONE), ONES)

    def test_every_small_sheet(self):
        for sheet in SMALL:
            for part in SMALL[:4] + SMALL[8:40:4] + OTHERS:
                for other in (OTHERS[1], OTHERS[3]):
                    self.check(replace_everywhere(sheet, part, other), tags_with_everywhere(sheet, part, other))

    def test_every_part(self):
        for sheet in oracle.all_sheets(oracle.SMALL_SIGN, 2):
            for row in (0, 1):
                for other in OTHERS:
                    part = oracle.rerooted(sheet, row)
                    self.check(replace_everywhere(sheet, part, other), tags_with_everywhere(sheet, part, other))

    def test_the_value_itself(self):
        for sheet, other in itertools.product((ONES, TURNS, SHORT, LONG, VOID), repeat=2):
            self.assertEqual(replace_everywhere(sheet, sheet, other), least_sheet(other))

    def test_no_such_part(self):
        for sheet in (ONES, TURNS, SHORT, LONG):
            self.assertEqual(replace_everywhere(sheet, VOID, END), least_sheet(sheet))
        self.assertEqual(replace_everywhere(ONES, TURNS, END), ONES)

    def test_not_inside_what_is_put_in(self):
        self.assertEqual(replace_everywhere(SHORT, END, SHORT), (
            ("cons", (1, 2)), ("two", ()), ("cons", (1, 3)), ("end", ()),
        ))
        self.assertEqual(replace_everywhere(TURNS, ONE, TURNS), least_sheet((
            ("cons", (2, 1)), ("cons", (6, 0)), ("cons", (3, 4)), ("one", ()), ("cons", (6, 2)), ("void", ()),
            ("two", ()),
        )))

    def test_same_by_the_same(self):
        for sheet in SMALL:
            self.assertEqual(replace_everywhere(sheet, sheet, sheet), oracle.least(sheet))
            self.assertEqual(replace_everywhere(sheet, (("a", ()),), (("a", ()),)), oracle.least(sheet))

    def test_inner_places_of_replaced_ones(self):
        # The part cons(two, end) goes as a whole, although its end is replaced elsewhere, too.
        nested = (("cons", (1, 2)), ("cons", (3, 2)), ("end", ()), ("two", ()))
        self.assertEqual(replace_everywhere(nested, SHORT, ONE), (("cons", (1, 2)), ("one", ()), ("end", ())))
        self.assertEqual(replace_everywhere(nested, END, ONE), (
            ("cons", (1, 3)), ("cons", (2, 3)), ("two", ()), ("one", ()),
        ))

    def test_other_sheets_of_one_value(self):
        for sheet, part in itertools.product((ONES, TURNS, SHORT), (ONE, TWO, END, TURNS)):
            found = replace_everywhere(sheet, part, SHORT)
            for again in oracle.rewritings(sheet):
                for further in oracle.rewritings(part):
                    for other in oracle.rewritings(SHORT):
                        self.assertEqual(replace_everywhere(again, further, other), found)

    def test_arguments_unchanged(self):
        kept = copy.deepcopy((LONG, SHORT))
        self.assertEqual(replace_everywhere(LONG, ONE, SHORT), replace_everywhere(LONG, ONE, SHORT))
        self.assertEqual((LONG, SHORT), kept)

    def test_by_name(self):
        self.assertEqual(replace_everywhere(sheet=ONES, part=LONG, other=END), END)


class RenameTagsTest(Edits):
    def test_examples(self):
        self.assertEqual(rename_tags(TURNS, one="two", two="one"), (
            ("cons", (1, 2)), ("two", ()), ("cons", (3, 0)), ("one", ()),
        ))

    def test_every_small_sheet(self):
        for names in [{}, {"a": "x"}, {"b": "x", "c": "b"}, {"a": "b", "b": "c", "c": "a"}, {"d": "a"}, {"a": "a"}]:
            for sheet in SMALL:
                tags = oracle.tags_down_to(sheet, DEPTH)
                self.check(rename_tags(sheet, **names), {path: names.get(tag, tag) for path, tag in tags.items()})

    def test_all_at_once(self):
        ring = (("x", (1,)), ("y", (2,)), ("z", (0,)))
        self.assertEqual(rename_tags(ring, x="y", y="z", z="x"), (("y", (1,)), ("z", (2,)), ("x", (0,))))
        self.assertEqual(rename_tags(ring, x="y", y="z"), (("y", (1,)), ("z", (2,)), ("z", (0,))))

    def test_brought_together(self):
        self.assertEqual(rename_tags(TURNS, two="one"), ONES)
        self.assertEqual(rename_tags(TURNS, one="end", two="end"), (("cons", (1, 0)), ("end", ())))

    def test_tags_that_do_not_occur(self):
        self.assertEqual(rename_tags(LONG, two="three", end="one"), ONES)
        self.assertEqual(rename_tags(LONG), ONES)
        self.assertEqual(rename_tags(VOID, one="two"), VOID)

    def test_void_stays(self):
        sheet = (("cons", (1, 2)), ("void", ()), ("one", ()))
        self.assertEqual(rename_tags(sheet, one="two"), (("cons", (1, 2)), ("void", ()), ("two", ())))

    def test_names_like_others_in_the_code(self):
        for name in "tags tag fields self rows if class none print other part path args kwargs".split():
            self.assertEqual(rename_tags(ONES, **{"one": name}), (("cons", (1, 0)), (name, ())))
            sheet = (("cons", (1, 0)), (name, ()))
            self.assertEqual(rename_tags(sheet, **{name: "one"}), ONES)
            self.assertEqual(rename_tags(sheet=sheet, **{name: "one"}), ONES)
        self.assertEqual(rename_tags(ONES, one="sheet"), (("cons", (1, 0)), ("sheet", ())))
        self.assertEqual(rename_tags((("sheet", ()),)), (("sheet", ()),))

    def test_other_sheets_of_one_value(self):
        for sheet in (ONES, TURNS, SHORT, LONG):
            for again in oracle.rewritings(sheet):
                self.assertEqual(rename_tags(again, one="two"), rename_tags(sheet, one="two"))

    def test_arguments_unchanged(self):
        kept, names = copy.deepcopy(TURNS), {"one": "two"}
        self.assertEqual(rename_tags(TURNS, **names), rename_tags(TURNS, **names))
        self.assertEqual((TURNS, names), (kept, {"one": "two"}))
