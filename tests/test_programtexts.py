import copy
import random
import re
import unittest

from roundcalls.errors import InvalidText
from roundcalls.programs import is_program
from roundcalls.programtexts import format_program, parse_program
from tests.examples import ANYTHING, ITEMS, PROGRAM, SIGN
from tests.formoracle import read_text, text_of
from tests.randomprograms import Maker

TEXT = """tags case 2 else 0 rank 1
make
make else = (case else (case case void) (tag case case (call make void)) (else) else else (tag rank else))
part a b = (if (either (is a void) (not (both (same a b) (ask tag (call make a))))) a (tag void))
test
test rank else rank 9 = (case rank else (and (or (yes) (no)) (call test rank rank)))
tag x rank 0 = (ask test (tag else) x)
gather
take a = (case a (rank call) (union (root call) (call take call)) else (union (none) (one else)))
ask a b c d = (union (take take a) (one void))
measure
never never = (least (plus 99 (never)) (most (number 0) (take number never)))
number b = (call never b)"""


class FormatProgramTest(unittest.TestCase):
    def test_examples(self):
        self.assertEqual(
            format_program((SIGN, (("gather", (("items", ("x",), 0, ITEMS),)),))),
            "tags cons 2 end 0 one 0 two 0\ngather\n"
            "items x = (case x (cons a b) (union (root a) (call items b)) else (none))",
        )

    def test_every_word(self):
        X = ("part", "x")
        condition = ("both", ("not", ("ask", "t", ())), ("either", ("same", X, ("tag", "one", ())), ("is", X, "void")))
        for sort, body, text in [
            ("make", X, "x"), ("make", ("tag", "one", ()), "(tag one)"),
            ("make", ("tag", "cons", (X, ("call", "f", (X, X)))), "(tag cons x (call f x x))"),
            ("make", ("call", "f", ()), "(call f)"), ("make", ("case", "x", (), X), "(case x else x)"),
            ("make", ("case", "x", (("a", (), X), ("b", ("c", "d"), X)), X), "(case x (a) x (b c d) x else x)"),
            ("make", ("if", condition, X, X), "(if (both (not (ask t)) (either (same x (tag one)) (is x void))) x x)"),
            ("test", ("and", ("yes",), ("or", ("no",), ("yes",))), "(and (yes) (or (no) (yes)))"),
            ("test", ("ask", "f", (X, X)), "(ask f x x)"), ("test", ("call", "f", (X,)), "(call f x)"),
            ("gather", ("union", ("none",), ("one", "void")), "(union (none) (one void))"),
            ("gather", ("root", "x"), "(root x)"), ("gather", ("take", "f", (X,)), "(take f x)"),
            ("measure", ("plus", 0, ("number", 99)), "(plus 0 (number 99))"),
            ("measure", ("least", ("never",), ("most", ("never",), ("take", "f", ()))),
             "(least (never) (most (never) (take f)))"),
        ]:
            ranked = " rank 0" if sort == "test" else ""
            whole = ((), ((sort, (("f", ("x", "y"), 0, body),)),))
            self.assertEqual(format_program(whole), f"tags\n{sort}\nf x y{ranked} = {text}")
            self.assertEqual(parse_program(format_program(whole)), whole)

    def test_ranks(self):
        for rank in range(10):
            text = format_program(((), (("test", (("f", ("x",), rank, ("yes",)),)),)))
            self.assertEqual(text, f"tags\ntest\nf x rank {rank} = (yes)")

    def test_random_programs(self):
        for seed in range(100):
            whole = Maker(seed).program()
            self.assertEqual(format_program(whole), text_of(whole))

    def test_arguments_unchanged(self):
        kept = copy.deepcopy(PROGRAM)
        self.assertEqual(format_program(PROGRAM), format_program(PROGRAM))
        self.assertEqual(PROGRAM, kept)

    def test_by_name(self):
        self.assertEqual(format_program(program=PROGRAM), text_of(PROGRAM))


class ParseProgramTest(unittest.TestCase):
    def check(self, text):
        """Check a text of whatever kind against another reader."""
        expected = read_text(text)
        if expected is None:
            self.check_none(text)
        else:
            self.assertEqual(parse_program(text), expected, text)

    def check_none(self, text):
        with self.assertRaises(InvalidText, msg=repr(text)):
            parse_program(text)

    def test_examples(self):
        self.assertEqual(
            parse_program("tags one 0\ntest\nfine x rank 2 = (yes)"),
            ((("one", 0),), (("test", (("fine", ("x",), 2, ("yes",)),)),)),
        )
        self.assertEqual(
            parse_program("tags a 0\ntest\nrank rank rank 2 = (yes)")[1],
            (("test", (("rank", ("rank",), 2, ("yes",)),)),),
        )

    def test_there_and_back(self):
        self.assertEqual(format_program(parse_program(TEXT)), TEXT)
        self.assertEqual(parse_program(TEXT), read_text(TEXT))
        self.assertEqual(parse_program(format_program(PROGRAM)), PROGRAM)
        for seed in range(100):
            whole = Maker(seed).program()
            self.assertEqual(parse_program(text_of(whole)), whole)

    def test_words_as_names(self):
        E = ("part", "else")
        for text, body in [
            ("else", E), ("(case else else else)", ("case", "else", (), E)), ("(tag else else)", ("tag", "else", (E,))),
            ("(case else (else else) else else else)", ("case", "else", (("else", ("else",), E),), E)),
            ("(case else (case) else else else)", ("case", "else", (("case", (), E),), E)),
            ("(case case (call case) (case case else case) else else)",
             ("case", "case", (("call", ("case",), ("case", "case", (), ("part", "case"))),), E)),
            ("(call call call)", ("call", "call", (("part", "call"),))), ("part", ("part", "part")),
            ("(if (is is is) if if)", ("if", ("is", ("part", "is"), "is"), ("part", "if"), ("part", "if"))),
        ]:
            whole = ((), (("make", (("make", ("make", "else"), 0, body),)),))
            self.assertEqual(parse_program(f"tags\nmake\nmake make else = {text}"), whole)

    def test_single_letters(self):
        text = "tags a 1 b 0\nmake\na a = (case a (a a) (tag a a) else (call a a))\ntest\nb b rank 1 = (call b b)"
        self.assertEqual(parse_program(text), read_text(text))

    def test_need_not_pass_the_checks(self):
        text = "tags\nmake\nf x = (tag a (call g y) (tag void x))\ntest\nt x rank 0 = (ask f)"
        self.assertEqual(format_program(parse_program(text)), text)

    def test_beyond_the_limits(self):
        for many in (40, 300):
            body = "(not " * many + "(is x one)" + ")" * many
            text = f"tags\nmake\nf x = (if {body} x x)"
            self.assertEqual(format_program(parse_program(text)), text)
            text = "tags\ngather\nf x = " + "(union (none) " * many + "(none)" + ")" * many
            self.assertEqual(format_program(parse_program(text)), text)
            text = "tags\nmake\nf x = " + "(case x (a b) " * many + "x" + " else x)" * many
            self.assertEqual(format_program(parse_program(text)), text)
        tags = "".join(f" {letter} 3" for letter in "abcdefghijklmnopqrst")
        text = f"tags{tags}\nmeasure\nf x y z u = (never)"
        self.assertEqual(format_program(parse_program(text)), text)
        groups = "".join(f"\ngather\n{letter}{letter} x = (none)" for letter in "abcdefghi")
        self.assertEqual(len(parse_program("tags" + groups)[1]), 9)
        functions = "".join(f"\n{letter} x rank 3 = (no)" for letter in "abcdefg")
        self.assertEqual(len(parse_program("tags\ntest" + functions)[1][0][1]), 7)

    def test_one_character_off(self):
        whole = "tags b 2 case 0\ntest\nf x y rank 2 = (case x (b c d) (or (call f c y) (no)) else (yes))"
        self.assertIsNotNone(read_text(whole))
        for text in [
            whole, "tags a 0\nmake\nf x = (if (is x a) (tag a) x)", "tags\nmeasure\nm x = (plus 10 (number 9))",
        ]:
            for at in range(len(text) + 1):
                self.check(text[:at] + text[at + 1:])
                self.check(text[:at] + text[at:at + 1] + text[at:])
                for letter in "ax0129 ()=\n\t,AZ_":
                    self.check(text[:at] + letter + text[at:])
                    self.check(text[:at] + letter + text[at + 1:])

    def test_one_word_off(self):
        for split in (r"( )", r"(\n)", r"([ ()\n])"):
            items = re.split(split, TEXT)
            for at in range(0, len(items), 2):
                for other in ["", items[at] * 2, "x", "void", "case", "0", "(yes)", "()", "else"]:
                    self.check("".join(items[:at] + [other] + items[at + 1:]))
                self.check("".join(items[:at] + items[at + 1:]))
                self.check("".join(items[:at] + items[at + 2:]))
                self.check("".join(items[:at + 1] + items[at:]))

    def test_lines(self):
        lines = TEXT.split("\n")
        for at in range(len(lines)):
            for other in range(len(lines)):
                changed = list(lines)
                changed[at], changed[other] = changed[other], changed[at]
                self.check("\n".join(changed))
                self.check("\n".join(lines[:at] + [lines[other]] + lines[at:]))
                self.check("\n".join(lines[:at] + lines[at + 1:]))
            for new in ["", "test", "make", "tags", " ", "x", "f x = x", "f x rank 1 = (yes)"]:
                self.check("\n".join(lines[:at] + [new] + lines[at:]))

    def test_parts_of_random_programs_exchanged(self):
        chance = random.Random(8)
        for seed in range(60):
            text = text_of(Maker(seed).program())
            items = re.findall(r"[a-z0-9]+|.|\n", text)
            for _ in range(30):
                at, other = chance.randrange(len(items)), chance.randrange(len(items))
                self.check("".join(items[:at] + [items[other]] + items[at + 1:]))
                self.check("".join(items[:at] + items[at + 1:]))

    def test_numbers_and_ranks(self):
        for number in [
            "00", "01", "099", "100", "-1", "+1", "1.", "9" * 40, "9" * 1900, "", "x", "(number 1)", "1_0", "0x1",
        ]:
            self.check_none(f"tags\nmeasure\nf x = (number {number})")
            self.check_none(f"tags\nmeasure\nf x = (plus {number} (never))")
        self.check_none("tags\nmeasure\nf x = (number " + "9" * 9000 + ")")
        for rank in ["00", "01", "10", "-1", "", "x", "9" * 40, "1 ", " 1"]:
            self.check_none(f"tags\ntest\nf x rank {rank} = (yes)")
        for count in ["00", "01", "4", "-1", "", "x", "9" * 40]:
            self.check_none(f"tags a {count}\ntest\nf x rank 0 = (yes)")

    def test_ranks_in_other_places(self):
        for line in [
            "f rank 1 x = (yes)", "rank 1 f x = (yes)", "f x = (yes) rank 1", "f x = rank 1 (yes)", "f x rank = (yes)",
            "f x 1 = (yes)", "f x = (yes)", "f rank 1 = (yes)", "f x rank 1 rank 1 = (yes)", "f x RANK 1 = (yes)",
        ]:
            self.check_none("tags\ntest\n" + line)
        for sort, body in [("make", "x"), ("gather", "(none)"), ("measure", "(never)")]:
            self.check_none(f"tags\n{sort}\nf x rank 0 = {body}")
            self.assertTrue(is_program(parse_program(f"tags\n{sort}\nf x rank = {body}")))

    def test_brackets(self):
        for body in [
            "(x)", "((tag one))", "(tag (one))", "(tag one (x))", "()", "(", ")", "", "x)", "(tag one", "(part x)",
            "x x",
            "(tag one))", "(case (x) else x)", "(case x (one) (x) else x)", "(case x ((one)) x else x)",
            "(case x () x else x)",
            "(case x one x else x)", "(case x (one) else x)", "(case x (one) x x)", "(case x (one) x else)", "(case x)",
            "(case x else x else x)", "(case x (one) x (else x))", "(case x else (x))", "(case x (one (a)) x else x)",
            "(case else x)", "(if x x x)", "(if (is x one) x)", "(if (is x one) x x x)", "(if (is x) x x)", "(tag)",
            "(call)",
            "(case x (yes) (yes) else x)", "(case x (one) x (yes) else x)", "(tag one )", "( tag one)", "(tag  one)",
            "(tag one)(tag one)", "(tag cons x(tag one))", "(tag cons (tag one)(tag one))", "(tagone)", "tag one",
        ]:
            self.assertIsNone(read_text("tags\nmake\nf x = " + body), body)
            self.check_none("tags\nmake\nf x = " + body)

    def test_blanks_and_line_feeds(self):
        text = "tags a 0\ntest\nf x rank 2 = (case x (a) (yes) else (no))"
        for at in range(len(text) + 1):
            for mark in ["\n", "  ", "\t", " \n", "\r\n", "\n\n"]:
                self.check_none(text[:at] + mark + text[at:])
        for at in range(len(text) + 1):
            self.check(text[:at] + " " + text[at:])

    def test_no_groups_or_functions(self):
        for text in [
            "", "tags", "tags a 0", "tags\n", "tags\ntest", "tags\ntest\ntest\nf x rank 0 = (yes)",
            "test\nf x rank 0 = (yes)",
            "tags\nf x rank 0 = (yes)", "tags\ntest\nf x rank 0 = (yes)\nmake", "tags\ntest\nf rank 0 = (yes)",
            "tags\ntest\nf x y z u v rank 0 = (yes)", "tags\ntest\nf x x rank 0 = (yes)",
            "tags b 0 a 0\ntest\nf x rank 0 = (yes)",
            "tags a\ntest\nf x rank 0 = (yes)", "tags a 0 a 0\ntest\nf x rank 0 = (yes)",
            "tags void 0\ntest\nf x rank 0 = (yes)",
            "tags\ntest\nf x rank 0 = (yes)\nf x rank 0 = (yes)", "tag\ntest\nf x rank 0 = (yes)",
            "tags\nTest\nf x rank 0 = (yes)", "tags\ntests\nf x rank 0 = (yes)", "tags\ntest\n = (yes)",
            "tags\ntest\n=",
        ]:
            self.check_none(text)

    def test_any_value(self):
        for thing in ANYTHING + [b"tags", PROGRAM, ["tags"], "tags", "(" * 2000, ")" * 2000, "(a " * 600, "= " * 900]:
            kept = copy.deepcopy(thing)
            self.check_none(thing)
            if isinstance(thing, str):
                self.check_none("tags\nmake\nf x = " + thing + " = ")
                self.check_none("tags\nmake\n" + thing)
            self.assertEqual(thing, kept)

    def test_by_name(self):
        self.assertEqual(parse_program(text=TEXT), parse_program(TEXT))
