import copy
import itertools
import unittest

from roundcalls.errors import NoPath
from roundcalls.paths import all_parts, part_at, tag_at
from roundcalls.sheets import part_count
from tests import oracle
from tests.examples import LONG, ONES, SHORT, TURNS

WRONG_PATHS = [
    (2,), (3,), (-1,), (-2,), (10 ** 39,), (0, 0), (0, 1), (0, -1), (1, 2), (1, -1), (1, 0, 0), (1,) * 20 + (2,),
    (1,) * 59 + (-1,), (0,) * 60,
]


class TagAtTest(unittest.TestCase):
    def test_examples(self):
        self.assertEqual(tag_at(TURNS, (1, 0)), "two")
        with self.assertRaises(NoPath):
            tag_at(ONES, (0, 0))

    def test_tags(self):
        self.assertEqual(tag_at(TURNS, ()), "cons")
        self.assertEqual(tag_at(TURNS, (0,)), "one")
        for steps in range(60):
            self.assertEqual(tag_at(TURNS, (1,) * steps), "cons")
            self.assertEqual(tag_at(TURNS, (1,) * steps + (0,)), ("one", "two")[steps % 2])

    def test_every_small_sheet(self):
        for sheet in oracle.all_sheets(oracle.SMALL_SIGN, 2):
            tags = oracle.tags_down_to(sheet, 3)
            for steps in range(4):
                for path in itertools.product((-1, 0, 1, 2), repeat=steps):
                    if path in tags:
                        self.assertEqual(tag_at(sheet, path), tags[path])
                    else:
                        with self.assertRaises(NoPath):
                            tag_at(sheet, path)

    def test_by_name(self):
        self.assertEqual(tag_at(sheet=TURNS, path=(1, 0)), "two")


class PartAtTest(unittest.TestCase):
    def test_examples(self):
        part = (("cons", (1, 2)), ("two", ()), ("cons", (3, 0)), ("one", ()))
        self.assertEqual(part_at(TURNS, (1,)), part)

    def test_parts(self):
        self.assertEqual(part_at(LONG, ()), ONES)
        self.assertEqual(part_at(LONG, (1, 1, 1)), ONES)
        self.assertEqual(part_at(LONG, (1, 1, 0)), (("one", ()),))
        self.assertEqual(part_at(SHORT, (1,)), (("end", ()),))

    def test_every_small_sheet(self):
        for sheet in oracle.all_sheets(oracle.SMALL_SIGN, 2):
            for path in oracle.nodes_down_to(sheet, 2):
                part = part_at(sheet, path)
                self.assertEqual(part, oracle.least(part))
                self.assertEqual(oracle.tags_down_to(part, 3), tags_below(sheet, path, 3))

    def test_by_name(self):
        self.assertEqual(part_at(sheet=LONG, path=(0,)), (("one", ()),))


def tags_below(sheet, start, depth):
    tags = oracle.tags_down_to(sheet, len(start) + depth)
    return {path[len(start):]: tag for path, tag in tags.items() if path[:len(start)] == start}


class NoPathTest(unittest.TestCase):
    def test_error_has_the_path(self):
        for function in (tag_at, part_at):
            for path in WRONG_PATHS:
                with self.assertRaises(NoPath) as caught:
                    function(ONES, path)
                self.assertEqual(caught.exception.path, path)

    def test_void_has_no_fields(self):
        self.assertEqual(tag_at((("void", ()),), ()), "void")
        with self.assertRaises(NoPath):
            tag_at((("void", ()),), (0,))


class AllPartsTest(unittest.TestCase):
    def test_examples(self):
        self.assertEqual(all_parts(LONG), ((("cons", (1, 0)), ("one", ())), (("one", ()),)))

    def test_parts(self):
        self.assertEqual(all_parts((("void", ()),)), ((("void", ()),),))
        self.assertEqual(all_parts(SHORT), (SHORT, (("two", ()),), (("end", ()),)))
        self.assertEqual(all_parts(TURNS), (TURNS, (("one", ()),), part_at(TURNS, (1,)), (("two", ()),)))

    def test_unreachable_rows(self):
        self.assertEqual(all_parts((("one", ()), ("two", ()))), ((("one", ()),),))

    def test_every_small_sheet(self):
        for sheet in oracle.all_sheets(oracle.SMALL_SIGN, 3):
            least = oracle.least(sheet)
            parts = all_parts(sheet)
            # Row 0 is the root, so a row is made the root by exchanging the two.
            for row, part in enumerate(parts):
                moved = [row if at == 0 else 0 if at == row else at for at in range(len(least))]
                turned = tuple((least[at][0], tuple(moved[field] for field in least[at][1])) for at in moved)
                self.assertEqual(part, oracle.least(turned))
            self.assertEqual(len(parts), len(least))

    def test_as_many_as_part_count(self):
        chain = tuple(("b", (at + 1,)) for at in range(59)) + (("a", ()),)
        self.assertEqual(len(all_parts(chain)), part_count(chain))

    def test_arguments_unchanged(self):
        kept = copy.deepcopy(LONG)
        all_parts(LONG), part_at(LONG, (1,)), tag_at(LONG, (1,))
        self.assertEqual(LONG, kept)

    def test_by_name(self):
        self.assertEqual(len(all_parts(sheet=LONG)), 2)
