import copy
import unittest

from roundcalls.errors import InvalidText
from roundcalls.valuetexts import format_value, parse_value
from tests import oracle
from tests.examples import ANYTHING, LONG, ONES, SHORT, SIGN, TURNS

VOID = (("void", ()),)
LETTERS = "abc012 ;\nvoid-+_.,"


def text_of(least):
    return "; ".join(" ".join([tag, *map(str, fields)]) for tag, fields in least)


def one_character_off(text):
    """The texts that differ from one by a character that is left out, doubled, put in or replaced."""
    for at in range(len(text) + 1):
        yield text[:at] + text[at:at + 1] + text[at:]
        yield text[:at] + text[at + 1:]
        for letter in LETTERS:
            yield text[:at] + letter + text[at:]
            yield text[:at] + letter + text[at + 1:]


def one_item_off(text, mark):
    """The texts in which a word, or a row, is left out, doubled, moved or replaced by another one."""
    items = text.split(mark)
    for at in range(len(items)):
        yield mark.join(items[:at] + items[at + 1:])
        yield mark.join(items[:at] + [items[at]] + items[at:])
        yield mark.join(items[at:] + items[:at])
        for other in range(len(items)):
            yield mark.join(items[:at] + [items[other]] + items[at + 1:])
            changed = list(items)
            changed[at], changed[other] = changed[other], changed[at]
            yield mark.join(changed)


class FormatValueTest(unittest.TestCase):
    def test_examples(self):
        self.assertEqual(format_value(LONG), "cons 1 0; one")

    def test_texts(self):
        self.assertEqual(format_value(VOID), "void")
        self.assertEqual(format_value(TURNS), "cons 1 2; one; cons 3 0; two")
        self.assertEqual(format_value(SHORT), "cons 1 2; two; end")
        ring = tuple(("b", ((at + 1) % 12,)) for at in range(11)) + (("c", (11, 0)),)
        self.assertTrue(format_value(ring).endswith("; b 10; b 11; c 11 0"))

    def test_every_small_sheet(self):
        for size in (1, 2, 3):
            for sheet in oracle.all_sheets(oracle.SMALL_SIGN, size):
                self.assertEqual(format_value(sheet), text_of(oracle.least(sheet)))

    def test_other_sheets_of_one_value(self):
        for sheet in (ONES, TURNS, SHORT, LONG, VOID):
            for other in oracle.rewritings(sheet):
                self.assertEqual(format_value(other), format_value(sheet))

    def test_arguments_unchanged(self):
        kept = copy.deepcopy(LONG)
        self.assertEqual(format_value(LONG), format_value(LONG))
        self.assertEqual(LONG, kept)

    def test_by_name(self):
        self.assertEqual(format_value(sheet=VOID), "void")


class ParseValueTest(unittest.TestCase):
    def check_none(self, signature, text):
        with self.assertRaises(InvalidText, msg=repr(text)):
            parse_value(signature, text)

    def test_examples(self):
        self.assertEqual(parse_value(SIGN, "cons 1 0; one"), (("cons", (1, 0)), ("one", ())))
        for text in ["cons 2 1; cons 2 0; one", "one one", "cons 01 0; one"]:
            self.check_none(SIGN, text)

    def test_texts_of_values(self):
        for sheet in (ONES, TURNS, SHORT, LONG, VOID):
            self.assertEqual(parse_value(SIGN, format_value(sheet)), oracle.least(sheet))
        self.assertEqual(parse_value((), "void"), VOID)

    def test_every_small_sheet(self):
        # A sheet as it stands is written down: that is a text if it is the least one.
        for size in (1, 2, 3):
            for sheet in oracle.all_sheets(oracle.SMALL_SIGN, size):
                text = text_of(sheet)
                if oracle.least(sheet) == sheet:
                    self.assertEqual(parse_value(oracle.SMALL_SIGN, text), sheet)
                else:
                    self.check_none(oracle.SMALL_SIGN, text)

    def test_texts_that_are_a_little_off(self):
        texts = {}
        for size in (1, 2, 3, 4):
            for sheet in oracle.all_sheets((("a", 0), ("c", 2)), size):
                if oracle.least(sheet) == sheet:
                    texts[text_of(sheet)] = sheet
        for text in sorted(text for text in texts if text.count(";") < 3)[::2]:
            for other in [*one_character_off(text), *one_item_off(text, " "), *one_item_off(text, "; ")]:
                if other in texts:
                    self.assertEqual(parse_value((("a", 0), ("c", 2)), other), texts[other])
                else:
                    self.check_none((("a", 0), ("c", 2)), other)

    def test_blanks_and_line_feeds(self):
        text = format_value(TURNS)
        for at in range(len(text) + 1):
            for mark in [" ", "\n", "  ", "\t", "; ", ";"]:
                self.check_none(SIGN, text[:at] + mark + text[at:])

    def test_numbers(self):
        for number in ["00", "01", "-1", "+1", "2", "10", "9" * 40, "9" * 1900, "0" * 40, "1_0", "0x1", "1.0", "",
        "one"]:
            self.check_none(SIGN, f"cons 1 {number}; one")
        ring = tuple(("b", ((at + 1) % 12,)) for at in range(11)) + (("c", (11, 0)),)
        text = format_value(ring)
        self.assertEqual(parse_value(oracle.SMALL_SIGN, text), ring)
        for old, new in [("b 10", "b 010"), ("b 11", "b 12"), ("c 11 0", "c 11 00"), ("b 1;", "b 01;")]:
            self.check_none(oracle.SMALL_SIGN, text.replace(old, new))

    def test_other_digits(self):
        for number in ["\u0661", "\u00b9", "\uff11"]:
            self.check_none(SIGN, f"cons {number} 0; one")

    def test_of_another_signature(self):
        self.check_none((), "one")
        self.check_none(SIGN, "three")
        self.check_none((("cons", 1), ("one", 0)), "cons 1 0; one")
        self.check_none((("one", 1),), "one")
        self.check_none(SIGN, "void 0")

    def test_texts_of_sheets_that_are_not_least(self):
        for text in [
            "one; one", "cons 0 1; one; two", "cons 1 2; one; one", "cons 2 1; one; two", "cons 1 1; cons 0 0",
            "cons 1 0; one; void",
        ]:
            self.check_none(SIGN, text)

    def test_any_value(self):
        for thing in ANYTHING + [b"one", b"void", ("one",), ["one"], {"one": 1}, "one", ONES, TURNS]:
            kept = copy.deepcopy(thing)
            if thing == "void" or thing == "one":
                self.assertEqual(parse_value(SIGN, thing), ((thing, ()),))
            else:
                self.check_none(SIGN, thing)
            self.assertEqual(thing, kept)

    def test_long_texts(self):
        ring = tuple(("b", ((at + 1) % 400,)) for at in range(399)) + (("c", (0, 0)),)
        self.assertEqual(parse_value(oracle.SMALL_SIGN, format_value(ring)), ring)
        self.check_none(oracle.SMALL_SIGN, "b 0; " * 400 + "b 0")
        self.check_none(SIGN, "one " * 500)
        self.check_none(SIGN, "; " * 1000)
        self.check_none(SIGN, "cons 1 " + "9" * 9000 + "; one")

    def test_by_name(self):
        self.assertEqual(parse_value(signature=SIGN, text="one"), (("one", ()),))
