import copy
import unittest

from roundcalls.signatures import is_name, is_signature
from tests.examples import ANYTHING, SIGN


class NamesTest(unittest.TestCase):
    def test_examples(self):
        self.assertEqual([is_name("cons"), is_name("Cons"), is_name("")], [True, False, False])

    def test_names(self):
        for name in ["a", "z", "ab", "abcdefgh", "zzzzzzzz", "void", "case", "rank", "else", "none", "sheet"]:
            self.assertIs(is_name(name), True, name)

    def test_every_letter(self):
        for letter in "abcdefghijklmnopqrstuvwxyz":
            self.assertIs(is_name(letter), True, letter)
            self.assertIs(is_name(letter.upper()), False, letter)

    def test_no_other_character(self):
        for code in range(32, 127):
            if not "a" <= chr(code) <= "z":
                self.assertIs(is_name("a" + chr(code)), False, chr(code))
                self.assertIs(is_name(chr(code)), False, chr(code))

    def test_wrong_strings(self):
        for name in ["abcdefghi", "a" * 2000, "a b", " a", "a ", "a\n", "\n", "a1", "a_b", "A", "aB", "\xe9"]:
            self.assertIs(is_name(name), False, name)

    def test_any_value(self):
        for thing in ANYTHING:
            self.assertIs(is_name(thing), thing in ("cons", "void") and isinstance(thing, str))

    def test_other_kinds(self):
        for thing in [("a",), ["a"], {"a": "a"}, 1, True, None, ("a", "b"), [], {}]:
            self.assertIs(is_name(thing), False)

    def test_by_name(self):
        self.assertIs(is_name(thing="one"), True)


class SignaturesTest(unittest.TestCase):
    def test_examples(self):
        self.assertEqual([is_signature(SIGN), is_signature((("b", 0), ("a", 0)))], [True, False])

    def test_signatures(self):
        letters = "abcdefghijklmnopqrstuvwxyz"
        for thing in [
            (), (("a", 0),), (("a", 3),), (("a", 0), ("b", 3)), (("abcdefgh", 1), ("z", 2)),
            (("con", 2), ("cons", 0)), (("u", 0), ("x", 1)), tuple((letter, 1) for letter in letters),
            tuple((a + b, 3) for a in letters for b in letters),
        ]:
            self.assertIs(is_signature(thing), True, thing)

    def test_order(self):
        for thing in [
            (("b", 0), ("a", 0)), (("a", 0), ("a", 0)), (("a", 0), ("a", 1)), (("cons", 0), ("con", 0)),
            (("a", 0), ("c", 0), ("b", 0)), (("a", 0), ("b", 0), ("b", 0)),
        ]:
            self.assertIs(is_signature(thing), False, thing)

    def test_counts(self):
        for count in [-1, 4, 100, 10 ** 39, True, False, None, "0", (), (1,), [1], {}]:
            self.assertIs(is_signature((("a", count),)), False, count)
            self.assertIs(is_signature((("a", 0), ("b", count))), False, count)

    def test_tags(self):
        for tag in ["", "A", "abcdefghi", "a ", "void", None, 1, True, (), ("a",), ["a"], {}]:
            self.assertIs(is_signature(((tag, 0),)), False, tag)

    def test_void_is_not_listed(self):
        self.assertIs(is_signature((("a", 0), ("void", 0))), False)

    def test_shapes(self):
        for thing in [
            [("a", 0)], (["a", 0],), (("a",),), (("a", 0, 0),), ("a", 0), ("a0",), "a0", {"a": 0}, None, True, 0,
            (("a", 0), None), (("a", 0), ()), ((),),
        ]:
            self.assertIs(is_signature(thing), False, thing)

    def test_any_value(self):
        for thing in ANYTHING:
            kept = copy.deepcopy(thing)
            self.assertIs(is_signature(thing), thing == () and isinstance(thing, tuple))
            self.assertIs(is_signature((("a", 0), thing)), thing == ("cons", 2) and isinstance(thing, tuple))
            self.assertEqual(thing, kept)

    def test_by_name(self):
        self.assertIs(is_signature(thing=()), True)
