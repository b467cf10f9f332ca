import copy
import random
import unittest

from roundcalls.certificates import certificate, certificate_holds
from roundcalls.checking import check_program
from roundcalls.errors import NotPlain, UnknownFunction
from roundcalls.leading import joined, led_back
from roundcalls.programs import is_program
from roundcalls.programtexts import parse_program
from roundcalls.running import answer
from roundcalls.sheets import is_sheet, least_sheet, part_count
from tests import oracle
from tests.examples import ANYTHING, LONG, MAKERS, ONES, PROGRAM, SHORT, SIGN, TESTS, TURNS
from tests.plainprograms import PlainMaker
from tests.programoracle import Run
from tests.test_settling import END, HALF, ONE, TWO, TWOS, VOID, program, ring

SHEETS = (ONES, TURNS, SHORT, LONG, VOID, HALF, END, ONE, TWO, TWOS, ring(7, 3), (("cons", (0, 0)),),
          (("cons", (1, 2)), ("cons", (2, 3)), ("one", ()), ("two", ())), (("cons", (0, 1)), ("void", ())))
USERS = """test
every x rank 0 = (case x (cons a b) (case a (one) (call every b) else (no)) else (yes))
some x rank 1 = (case x (cons a b) (case a (two) (yes) else (call some b)) else (no))
both x rank 4 = (and (call every x) (or (case x (cons a b) (call both b) (one) (yes) else (no)) (call some x)))
gather
set x = (case x (cons a b) (union (root a) (call set b)) else (root x))
deep x = (case x (cons a b) (union (root x) (case a (cons c d) (union (call deep c) (root d)) else (none))) else (none))
measure
far x = (case x (cons a b) (case a (two) (number 0) else (plus 1 (call far b))) else (never))
size x = (case x (cons a b) (plus 0 (most (call size a) (plus 9 (call size b)))) else (number 3))"""


def words(part):
    """All words, names and tags in a body."""
    if isinstance(part, tuple):
        return [word for item in part for word in words(item)]
    return [part]


def calls_of_makers(body, sort):
    """The functions that are called as makers in a body of a sort other than makers."""
    found = []

    def visit(part, kind):
        if kind in ("term", "make") and part[0] == "call":
            found.append(part[1])
        word = part[0]
        if word == "case":
            for branch in part[2]:
                visit(branch[2], kind)
            visit(part[3], kind)
        elif word == "if":
            visit(part[1], "condition")
            visit(part[2], kind)
            visit(part[3], kind)
        elif word in ("tag", "call", "ask", "take"):
            for term in part[2]:
                visit(term, "term")
        elif word == "same":
            visit(part[1], "term")
            visit(part[2], "term")
        elif word == "is":
            visit(part[1], "term")
        elif word in ("not", "both", "either", "and", "or", "union", "least", "most"):
            for item in part[1:]:
                visit(item, kind)
        elif word == "plus":
            visit(part[2], kind)

    visit(body, sort)
    return found


class Leading(unittest.TestCase):
    def check_group(self, old, new, name, sort):
        """Check that a program is the old one with a good group at its end; return that group."""
        self.assertIs(is_program(new), True)
        self.assertIsNone(check_program(new))
        self.assertEqual((new[0], new[1][:-1], len(new[1])), (old[0], old[1], len(old[1]) + 1))
        self.assertEqual(new[1][-1][0], sort)
        members = new[1][-1][1]
        self.assertIn(name, [function[0] for function in members])
        self.assertEqual([len(function[1]) for function in members if function[0] == name], [1])
        own = {function[0] for function in members}
        for function in members:
            found = calls_of_makers(function[3], sort)
            if sort == "make":
                self.assertEqual(len(function[1]), 1)
                self.assertLessEqual(set(found), own)
            else:
                self.assertEqual(found, [])
        return members

    def check_led(self, whole, maker, function, sheets):
        """Check a function that is led back against the answers for made values."""
        wider, name = led_back(whole, maker, function)
        sort = {member[0]: group[0] for group in whole[1] for member in group[1]}[function]
        self.check_group(whole, wider, name, sort)
        self.assertEqual(led_back(whole, maker, function), (wider, name))
        for sheet in sheets:
            expected = answer(whole, function, answer(whole, maker, sheet))
            self.assertEqual(repr(answer(wider, name, sheet)), repr(expected), (whole, maker, function, sheet))

    def check_joined(self, whole, names, sheets):
        """Check makers that are joined against making one value of another."""
        wider, name = joined(whole, *names)
        self.check_group(whole, wider, name, "make")
        self.assertEqual(joined(whole, *names), (wider, name))
        for sheet in sheets:
            expected = sheet
            for maker in names:
                expected = answer(whole, maker, expected)
            self.assertEqual(answer(wider, name, sheet), expected, (whole, names, sheet))
        return wider, name


class LedBackTest(Leading):
    def test_examples(self):
        wider, name = led_back((SIGN, (MAKERS, TESTS)), "swap", "every")
        self.assertEqual([answer(wider, name, ONES), answer(wider, name, (("end", ()),))], [False, True])

    def test_the_program_of_the_examples(self):
        for function in ("every", "some", "items", "far"):
            self.check_led(PROGRAM, "swap", function, SHEETS)

    def test_makers(self):
        for text in [
            "m x = x", "m x = (tag one)", "m x = (tag void)", "m x = (tag cons (tag one) (tag cons x (tag void)))",
            "m x = (call m x)", "m x = (call n x)\nn x = (call m x)", "m x = (tag cons (call n x) (call m x))\nn x = x",
            "m x = (case x (cons a b) (call m b) else (tag two))",
            "m x = (case x (cons a b) (case b (cons c d) (tag cons c (tag cons a (call m d))) else b) else x)",
            "m x = (case x (cons x y) (case y (cons y x) (tag cons x (call m y)) else x) else x)",
            "m x = (tag cons (call n x) (call n x))\nn x = (case x (cons a b) (call n b) else x)",
            "m x = (case x (cons a b) (tag cons (tag cons a b) (call m b)) (one) (tag two) else (call m x))",
            "m x = (if (is x cons) (case x (cons a b) (tag cons (call n a) (call m b)) else x) (tag end))\n"
            "n x = (case x (one) (tag two) else (call n x))",
            "m x = (case x (cons a b) (if (both (not (same a (tag one))) (either (is b cons) (same a b))) (call m b)"
            " (tag cons a (call m b))) else x)",
        ]:
            whole = program(f"make\n{text}\n{USERS}")
            for function in ("every", "some", "both", "set", "deep", "far", "size"):
                self.check_led(whole, "m", function, SHEETS)

    def test_conditions_that_ask(self):
        whole = program(
            "test\nhas x y rank 1 = (case x (cons a b) (if (same a y) (yes) (call has b y)) else (no))\n"
            "make\nm x = (case x (cons a b) (if (ask has x (tag two)) (tag cons a (call m b)) (call n b)) else x)\n"
            "n y = (case y (cons a y) (if (either (ask has (tag cons (tag two) y) a) (is (tag cons y a) end))"
            " (tag cons y (tag cons a (call m y))) (call m y)) else (tag cons y y))\n" + USERS
        )
        for maker in ("m", "n"):
            for function in ("every", "both", "deep", "set", "size"):
                self.check_led(whole, maker, function, SHEETS)

    def test_functions(self):
        head = ("make\nm x = (case x (cons a b) (tag cons (call n a) (call m b)) else x)\n"
                "n x = (case x (cons c d) (tag cons (call n d) (call n c)) (one) (tag two) else (call n x))\n")
        for line, name in [
            ("test\nt x rank 3 = (yes)", "t"), ("test\nt x rank 3 = (no)", "t"),
            ("test\nt x rank 3 = (call t x)", "t"), ("test\nt x rank 8 = (call u x)\nu x rank 3 = (call t x)", "t"),
            ("test\nt x rank 2 = (or (case x else (no)) (yes))", "t"),
            ("test\nt x rank 2 = (case x else (yes))", "t"),
            ("test\nt x rank 2 = (case x (cons a b) (and (call t a) (call t b)) else (yes))", "t"),
            ("test\nt x rank 7 = (case x (cons a b) (or (call t a) (call u b)) (two) (yes) else (no))\n"
             "u x rank 6 = (case x (cons a b) (case x (cons b a) (call u a) else (no)) else (call t x))", "t"),
            ("test\nt x rank 0 = (case x (cons a b) (case b (cons c d) (and (call t d) (call t x)) else (no))"
             " else (case x (one) (no) else (yes)))", "t"),
            ("test\nt x rank 0 = (case x (cons x b) (case x (two) (call t b) else (call t x)) else (call t x))", "t"),
            ("gather\nt x = (root x)", "t"), ("gather\nt x = (one void)", "t"), ("gather\nt x = (call t x)", "t"),
            ("gather\nt x = (case x (cons a b) (union (case a (cons c d) (union (root c) (root d)) else (root a))"
             " (case b (cons c d) (union (root x) (call t b)) else (union (one end) (root b)))) else (root x))", "t"),
            ("measure\nt x = (never)", "t"), ("measure\nt x = (number 99)", "t"),
            ("measure\nt x = (plus 0 (call t x))", "t"),
            ("measure\nt x = (least (plus 99 (call u x)) (case x (cons a b) (plus 5 (call t b)) else (number 1)))\n"
             "u x = (case x (cons a b) (case b (cons c d) (most (call t d) (call u b)) else (number 0)) else (never))",
             "t"),
        ]:
            self.check_led(program(head + line), "m", name, SHEETS)
            self.check_led(program(head + line), "n", name, SHEETS)

    def test_fields_of_three(self):
        text = """tags f 3 g 0 h 1
make
m x = (case x (f a b c) (tag f (call n c) (call m a) (tag f (call m b) a (call n b))) (h a) (call n a) else x)
n x = (case x (f a b c) (call n b) (h a) (tag f (call m a) (call n a) x) else (tag h x))
test
t x rank 1 = (case x (f a b c) (case a (f d e g) (or (and (call t b) (call u c)) (and (call t e) (call u x)))"""
        text += """ (h d) (and (call u b) (and (call t c) (call t d))) else (call u b)) (h a) (call t a) else (yes))
u x rank 2 = (case x (f a b c) (case b (h d) (or (call u c) (call t a)) else (and (call u b) (call u a)))"""
        text += " (h a) (case a (f a b c) (call t c) else (no)) else (no))"
        whole = parse_program(text)
        check_program(whole)
        chance = random.Random(4)
        sheets = []
        for _ in range(40):
            size = chance.randint(1, 7)
            tags = [chance.choice(["f", "f", "g", "h", "h"]) for _ in range(size)]
            sheets.append(tuple((tag, tuple(chance.randrange(size) for _ in range({"f": 3, "g": 0, "h": 1}[tag])))
                                for tag in tags))
        for maker in ("m", "n"):
            for function in ("t", "u"):
                self.check_led(whole, maker, function, sheets)

    def test_random_programs(self):
        for seed in range(150):
            maker = PlainMaker(seed)
            whole = maker.program(plain=1 + seed % 2, bare=0, most=1 + seed % 4)
            for group in maker.users:
                sheets = [maker.sheet(maker.chance.randint(1, 7)) for _ in range(5)]
                name = maker.chance.choice(maker.chance.choice(maker.plain))
                self.check_led(whole, name, maker.chance.choice(group), sheets)

    def test_random_programs_by_the_oracle(self):
        for seed in range(1000, 1060):
            maker = PlainMaker(seed)
            whole = maker.program(bare=0)
            for group in maker.users:
                name, function = maker.chance.choice(maker.plain[0]), maker.chance.choice(group)
                wider, told = led_back(whole, name, function)
                for _ in range(3):
                    value = least_sheet(maker.sheet(maker.chance.randint(1, 4)))
                    expected = Run(whole).answer((function, (Run(whole).answer((name, (value,))),)))
                    self.assertEqual(repr(Run(wider).answer((told, (value,)))), repr(expected))

    def test_long_ways_without_tags(self):
        whole = program(
            "make\nm x = (case x (cons a b) (case a (two) (tag cons (call n b) (call m b)) else (call m b)) else x)\n"
            "n x = (case x (cons a b) (case a (one) (call n b) else a) else (call n x))\n" + USERS
        )
        for sheet in (ring(390, 390), ring(390, 388), ring(300, 100), ring(390, 1)):
            for maker in ("m", "n"):
                for function in ("every", "some", "both", "set", "deep", "far", "size"):
                    wider, name = led_back(whole, maker, function)
                    expected = answer(whole, function, answer(whole, maker, sheet))
                    self.assertEqual(answer(wider, name, sheet), expected)

    def test_all_ranks(self):
        for first in range(10):
            for second in range(10):
                whole = program(
                    "make\nm x = (case x (cons a b) (tag cons b (call n b)) else (call m x))\n"
                    "n x = (case x (cons a b) (case a (one) (call m b) else (tag cons a (call m b))) else x)\ntest\n"
                    f"t x rank {first} = (case x (cons a b) (or (call u b) (call u a)) else (no))\n"
                    f"u x rank {second} = (case x (cons a b) (and (call t b) (call t x)) else (yes))"
                )
                self.check_led(whole, "m", "t", (ONES, TURNS, SHORT, HALF))

    def test_results_are_valid_arguments(self):
        whole = program(
            "make\nm x = (case x (cons a b) (tag cons b (call m a)) else (call m x))\n"
            "make\nn x = (case x (cons a b) (tag cons (call n b) x) else (tag two))\n" + USERS
        )
        wider, name = joined(whole, "m", "n", "n")
        for function in ("every", "both", "set", "far"):
            self.check_led(wider, name, function, SHEETS)
        again, told = led_back(whole, "m", "every")
        last, other = led_back(again, "n", "every")
        for sheet in SHEETS:
            self.assertIs(answer(last, other, sheet), answer(whole, "every", answer(whole, "n", sheet)))
            self.assertIs(answer(last, told, sheet), answer(whole, "every", answer(whole, "m", sheet)))
            for sort, name in (("every", other), ("far", "far")):
                self.assertIs(certificate_holds(last, name, (sheet,), certificate(last, name, sheet)), True)

    def test_names_taken(self):
        letters = "abcdefghijklmnopqrstuvwxyz"
        lines = [f"make\n{letter} x = (case x (cons a b) (tag cons b (call {letter} a)) else x)" for letter in letters]
        whole = program("\n".join(lines) + "\n" + USERS)
        wider, name = led_back(whole, "c", "every")
        self.assertNotIn(name, letters)
        self.check_group(whole, wider, name, "test")
        self.assertIs(answer(wider, name, ONES), answer(whole, "every", answer(whole, "c", ONES)))


class JoinedTest(Leading):
    MAKERS = "\n".join([
        "make",
        "p x = (case x (cons a b) (if (same a b) (call q b) (tag cons (call q a) (call p b))) (one) (tag two) else x)",
        "q x = (case x (cons a b) (case b (cons c d) (tag cons c (call p d)) else (call q x)) else (tag cons x x))",
        "make",
        "b x = (case x (cons a b) (tag cons b (call c a)) (one) (tag end) else (call c x))",
        "c x = (case x (cons x y) (tag cons (tag cons y (call c x)) (call b y)) else (call b x))",
        "make",
        "d x = (tag cons (call e x) (tag cons x (call d x)))",
        "e x = (case x (cons a b) (call e b) else (tag void))",
        "make\nf x = (call f x)\nmake\ng x = x\nmake\nh x = (tag two)\nmake\ni x = (case x else (tag one))",
        "make\nj x = (case x (cons a b) (call j b) else x)",
    ])

    def test_every_pair_and_more(self):
        whole = program(self.MAKERS)
        bare = "bcdefghij"
        for first in "pqbcdefghij":
            self.check_joined(whole, (first,), SHEETS)
            for second in bare:
                self.check_joined(whole, (first, second), SHEETS)
        chance = random.Random(5)
        for _ in range(60):
            names = [chance.choice("pq" + bare), chance.choice(bare), chance.choice(bare)]
            self.check_joined(whole, names, chance.sample(SHEETS, 5))

    def test_the_same_bare_maker_twice(self):
        whole = program(self.MAKERS)
        for name in "bcdefghij":
            self.check_joined(whole, (name, name), SHEETS)
            self.check_joined(whole, (name, name, name), SHEETS[:6])

    def test_one_maker_alone(self):
        wider, name = self.check_joined(PROGRAM, ("swap",), SHEETS)
        self.assertNotIn(name, ("swap", "every", "some", "items", "far"))
        self.assertEqual(len(wider[1]), 5)

    def test_the_result_is_plain(self):
        whole = program(f"{self.MAKERS}\n{USERS}")
        wider, name = joined(whole, "p", "b", "c")
        self.check_joined(wider, (name,), SHEETS)
        self.check_joined(wider, (name, "d"), SHEETS)
        self.check_joined(wider, (name, "c", "b"), SHEETS[:5])
        for function in ("every", "some", "deep"):
            self.check_led(wider, name, function, SHEETS)

    def test_conditions_that_ask(self):
        whole = program("test\nt x rank 0 = (case x (cons a b) (call t a) else (yes))\n"
                        "make\nm x = (case x (cons a b) (if (ask t x) (tag cons b (call m a)) (call m b)) else x)\n"
                        + self.MAKERS)
        for other in "bcdeghij":
            self.check_joined(whole, ("m", other), SHEETS)
            self.check_joined(whole, ("m", other, "b"), SHEETS)

    def test_random_programs(self):
        for seed in range(120):
            maker = PlainMaker(seed + 500)
            whole = maker.program(plain=1, bare=2, sorts=(), most=1 + seed % 4)
            sheets = [maker.sheet(maker.chance.randint(1, 6)) for _ in range(4)]
            for many in range(3):
                names = [maker.chance.choice(maker.plain[0] + maker.bare[0])]
                names += [maker.chance.choice(maker.chance.choice(maker.bare)) for _ in range(many)]
                self.check_joined(whole, names, sheets)

    def test_values_of_many_parts(self):
        whole = program(self.MAKERS)
        sheet = ring(190, 7)
        wider, name = self.check_joined(whole, ("d", "b"), (sheet,))
        self.assertGreater(part_count(answer(wider, name, sheet)), 190)
        self.check_joined(whole, ("p", "b", "d"), (ring(60, 13),))

    def test_great_terms(self):
        tree = "a"
        for _ in range(4):
            tree = f"(tag cons {tree} {tree})"
        whole = program(
            f"make\nm x = (case x (cons a b) (tag cons {tree} (tag cons (call m b) {tree})) else x)\n"
            f"make\nn x = (case x (cons a b) (tag cons {tree} (call n b)) else (tag cons x x))"
        )
        wider, name = self.check_joined(whole, ("m", "n", "n"), (ONES, SHORT, TWOS))
        self.assertLess(len(words(wider)), 20000)


class ErrorsTest(Leading):
    def check(self, error, name, deed):
        with self.assertRaises(error) as caught:
            deed()
        self.assertIs(type(caught.exception), error)
        self.assertEqual(repr(caught.exception.name), repr(name))

    def test_unknown_functions(self):
        for name in ["swaps", "swa", "x", "", "Swap", "cons"] + ANYTHING:
            self.check(UnknownFunction, name, lambda: led_back(PROGRAM, name, "every"))
            self.check(UnknownFunction, name, lambda: led_back(PROGRAM, name, "nope"))
            self.check(UnknownFunction, name, lambda: led_back(PROGRAM, "swap", name))
            self.check(UnknownFunction, name, lambda: led_back(PROGRAM, "every", name))
            self.check(UnknownFunction, name, lambda: joined(PROGRAM, name))
            self.check(UnknownFunction, name, lambda: joined(PROGRAM, name, "nope"))
            self.check(UnknownFunction, name, lambda: joined(PROGRAM, "every", "swap", name))
            self.check(UnknownFunction, name, lambda: joined(PROGRAM, "swap", name, "nope"))

    def test_wrong_sorts(self):
        for name in ("every", "some", "items", "far"):
            self.check(NotPlain, name, lambda: led_back(PROGRAM, name, "every"))
            self.check(NotPlain, name, lambda: led_back(PROGRAM, name, "swap"))
            self.check(NotPlain, name, lambda: joined(PROGRAM, name))
            self.check(NotPlain, name, lambda: joined(PROGRAM, name, "far"))
        self.check(NotPlain, "swap", lambda: led_back(PROGRAM, "swap", "swap"))
        self.check(NotPlain, "swap", lambda: joined(PROGRAM, "swap", "swap"))
        self.check(NotPlain, "every", lambda: joined(PROGRAM, "swap", "every", "swap"))

    def test_makers_that_are_not_plain(self):
        for text in [
            "make\nm x y = x", "make\nm x = (tag cons (call n x x) x)\nn x y = (call m x)",
            "make\nk x = x\nmake\nm x = (call k x)",
            "make\nk x = x\nmake\nm x = (tag cons x (call n x))\nn x = (call k x)",
            "make\nk x = x\nmake\nm x = (if (is (call k x) one) x (tag one))",
            "make\nk x = x\nmake\nm x = (call n x)\nn x = (call o x)\n"
            "o x = (if (not (same x (call k x))) x (call n x))",
            "test\nt x rank 0 = (yes)\nmake\nk x = x\nmake\nm x = (if (ask t (tag cons x (call k x))) x x)",
        ]:
            whole = program(f"{text}\n{USERS}")
            self.check(NotPlain, "m", lambda: led_back(whole, "m", "every"))
            self.check(NotPlain, "m", lambda: joined(whole, "m"))
            self.check(NotPlain, "m", lambda: joined(whole, "m", "m"))

    def test_functions_that_are_not_plain(self):
        head = "make\nm x = (case x (cons a b) (tag cons b (call m a)) else x)\ntest\nk x rank 0 = (yes)\n"
        for text in [
            "test\nt x y rank 0 = (yes)", "test\nt x rank 0 = (call u x x)\nu x y rank 0 = (yes)",
            "test\nt x rank 0 = (if (is x one) (yes) (no))", "test\nt x rank 0 = (or (ask k x) (yes))",
            "test\nt x rank 0 = (and (no) (call u x))\nu x rank 0 = (call v x)\nv x rank 0 = (ask k x)",
            "test\nt x rank 0 = (case x (cons a b) (case a (cons c d) (case c (cons x y) (yes) else (no)) else (no))"
            " else (no))",
            "test\nt x rank 0 = (case x else (or (no) (case x else (and (yes) (case x else (yes))))))",
            "gather\ni x = (none)\ngather\nt x = (take i x)",
            "gather\nt x = (case x (cons a b) (if (is a one) (none) (none)) else (none))",
            "measure\ni x = (never)\nmeasure\nt x = (plus 1 (least (take i x) (never)))",
        ]:
            whole = program(head + text)
            self.check(NotPlain, "t", lambda: led_back(whole, "m", "t"))
        whole = program(head + "make\nn x = (call m x)\ntest\nt x rank 0 = (ask k x)")
        self.check(NotPlain, "n", lambda: led_back(whole, "n", "t"))

    def test_makers_that_are_not_bare(self):
        head = "make\nm x = (case x (cons a b) (case b (cons c d) (tag cons a d) else x) else x)\n"
        for text in [
            "make\nn x = (if (is x one) x (tag one))", "make\nn x = (case x (cons a b) (case a (one) b else a) else x)",
            "make\nn x = (case x else (case x else x))", "make\nn x y = x", "make\nn x = (call m x)",
            "make\nn x = (call o x)\no x = (if (is x one) x (call n x))",
        ]:
            whole = program(head + text)
            self.check(NotPlain, "n", lambda: joined(whole, "m", "n"))
            self.check(NotPlain, "n", lambda: joined(whole, "m", "n", "m"))
            self.check(NotPlain, "m", lambda: joined(whole, "m", "m", "n"))

    def test_only_what_is_needed_counts(self):
        whole = program(
            "make\nk x = x\nmake\nm x = (case x (cons a b) (tag cons b (call m a)) else x)\n"
            "n x y = (tag cons (call m x) (call k y))\n"
            "test\nt x rank 1 = (case x (cons a b) (call t b) else (yes))\n"
            "u x y rank 0 = (if (is x one) (call t x) (no))"
        )
        self.check_led(whole, "m", "t", SHEETS)
        self.check_joined(whole, ("m", "m"), SHEETS)
        self.check_joined(whole, ("k", "m", "k"), SHEETS)
        self.check(NotPlain, "n", lambda: led_back(whole, "n", "u"))
        self.check(NotPlain, "u", lambda: led_back(whole, "m", "u"))

    def test_two_cases_side_by_side_are_plain(self):
        whole = program(
            "make\nm x = (case x (cons a b) (tag cons b (call m a)) else x)\n"
            "test\nt x rank 0 = (or (case x (cons a b) (or (case a (one) (yes) else (no))"
            " (case b (one) (yes) else (no))) else (case x (two) (yes) else (no)))"
            " (case x (cons a b) (case b (cons c d) (call t d) else (no)) else (no)))"
        )
        self.check_led(whole, "m", "t", SHEETS)

    def test_by_name(self):
        self.assertEqual(led_back(function="every", maker="swap", program=PROGRAM), led_back(PROGRAM, "swap", "every"))
        self.assertEqual(joined(first="swap", program=PROGRAM), joined(PROGRAM, "swap"))
        self.check(NotPlain, "far", lambda: joined(first="far", program=PROGRAM))
        self.check(UnknownFunction, "a", lambda: led_back(maker="a", program=PROGRAM, function="b"))
        self.check(NotPlain, "far", lambda: led_back(function="far", program=PROGRAM, maker="far"))

    def test_arguments_unchanged(self):
        kept = copy.deepcopy(PROGRAM)
        wider, name = led_back(PROGRAM, "swap", "items")
        self.assertIs(is_sheet(SIGN, answer(*joined(PROGRAM, "swap"), ONES)), True)
        self.assertEqual(PROGRAM, kept)
        self.assertEqual(answer(wider, name, *oracle.rewritings(TURNS)[:1]), ("one", "two"))
