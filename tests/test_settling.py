import copy
import random
import unittest

from roundcalls.checking import check_program
from roundcalls.errors import UnknownFunction, WrongArguments
from roundcalls.programs import is_program
from roundcalls.programtexts import parse_program
from roundcalls.settling import needed_calls, settle
from roundcalls.sheets import least_sheet, part_count
from tests import oracle
from tests.examples import ANYTHING, LONG, ONES, PROGRAM, SHORT, SIGN, TURNS
from tests.programoracle import Run
from tests.randomprograms import Maker

VOID, END, ONE, TWO = (("void", ()),), (("end", ()),), (("one", ()),), (("two", ()),)
HEAD = "tags cons 2 end 0 one 0 two 0"
HALF = (("cons", (1, 0)), ("void", ()))
TWOS = (("cons", (1, 0)), ("two", ()))
ZIPPED = """make
zip x y = (case x (cons a b) (case y (cons c d) (tag cons (tag cons a c) (call zip b d)) else y) else x)
test
all x rank 0 = (case x (cons a b) (case a (cons c d) (if (same c d) (call all b) (call some b)) else (no)) else (no))
some x rank 1 = (case x (cons a b) (case a (cons c d) (if (same c d) (call all b) (call some b)) else (no)) else (no))
gather
set x = (case x (cons a b) (union (call set a) (call set b)) else (root x))
measure
q x = (case x (cons a b) (case a (cons c d) (if (same c d) (plus 1 (call q b)) (number 0)) else (never)) else (never))
test
t x y rank 0 = (ask all (call zip x y))
gather
g x y = (take set (call zip x y))
measure
m x y = (take q (call zip x y))"""
USE = {"make": "call", "test": "ask", "gather": "take", "measure": "take"}


def program(text):
    found = parse_program(f"{HEAD}\n{text}")
    check_program(found)
    return found


def ring(size, every=1):
    """An endless list of one and, at each so-and-so-manyth place, two."""
    cells = tuple(("cons", (size if at % every else size + 1, (at + 1) % size)) for at in range(size))
    return cells + (("one", ()), ("two", ()))


def wrapped(whole):
    """A program with a group for each function that uses it, and a dict of the names of the users."""
    signature, groups = whole
    users, names = [], {}
    for sort, functions in groups:
        for name, params, _, _ in functions:
            names[name] = "user" + chr(97 + len(names))
            body = (USE[sort], name, tuple(("part", param) for param in params))
            users.append((sort, ((names[name], params, 0, body),)))
    return (signature, groups + tuple(users)), names


class Settling(unittest.TestCase):
    def check(self, text, name, arguments, expected):
        """Check a settled body."""
        whole = program(text)
        least = tuple(least_sheet(sheet) for sheet in arguments)
        self.assertEqual(settle(whole, (name, arguments)), expected)
        self.assertEqual(Run(whole).settle((name, least)), expected)

    def check_answer(self, text, name, arguments, expected):
        """Check what a use of a function by a later one comes to."""
        whole, names = wrapped(program(text))
        self.assertEqual(settle(whole, (names[name], arguments)), expected)


class SettleTest(Settling):
    def test_examples(self):
        self.assertEqual(settle(PROGRAM, ("every", (LONG,))), ("call", "every", (ONES,)))

    def test_the_program_of_the_examples(self):
        rest = (("cons", (1, 2)), ("two", ()), ("cons", (3, 0)), ("one", ()))
        self.assertEqual(settle(PROGRAM, ("every", (TURNS,))), ("call", "every", (rest,)))
        self.assertEqual(settle(PROGRAM, ("every", (rest,))), ("no",))
        self.assertEqual(settle(PROGRAM, ("some", (SHORT,))), ("yes",))
        self.assertEqual(settle(PROGRAM, ("some", (END,))), ("no",))
        self.assertEqual(settle(PROGRAM, ("items", (LONG,))), ("union", ("tags", ("one",)), ("call", "items", (ONES,))))
        self.assertEqual(settle(PROGRAM, ("far", (LONG,))), ("plus", 1, ("call", "far", (ONES,))))
        self.assertEqual(settle(PROGRAM, ("far", (SHORT,))), ("number", 0))
        self.assertEqual(settle(PROGRAM, ("far", (END,))), ("never",))
        self.assertEqual(
            settle(PROGRAM, ("swap", (LONG,))), ("tag", "cons", (("tag", "two", ()), ("call", "swap", (ONES,)))),
        )
        self.assertEqual(settle(PROGRAM, ("swap", (SHORT,))), (
            "tag", "cons", (("tag", "one", ()), ("call", "swap", (END,))),
        ))
        self.assertEqual(settle(PROGRAM, ("swap", (END,))), ("value", END))

    def test_cases_on_void(self):
        for sort, last, expected in [
            ("make", "(tag one)", ("value", VOID)), ("test", "(yes)", ("no",)), ("gather", "(one one)", ("tags", ())),
            ("measure", "(number 1)", ("never",)),
        ]:
            ranked = " rank 0" if sort == "test" else ""
            self.check(f"{sort}\nf x{ranked} = (case x else {last})", "f", (VOID,), expected)
            self.check(f"{sort}\nf x{ranked} = (case x (one) {last} else {last})", "f", (VOID,), expected)
            text = f"{sort}\nf x{ranked} = (case x (cons a b) (case a else {last}) else {last})"
            self.check(text, "f", (HALF,), expected)
        self.check("test\nf x rank 0 = (or (case x else (yes)) (yes))", "f", (VOID,), ("or", ("no",), ("yes",)))
        self.check("make\nf x y = (tag cons x y)", "f", (VOID, VOID), ("tag", "cons", (("value", VOID),) * 2))

    def test_void_without_a_case(self):
        self.check("make\nf x = x", "f", (VOID,), ("value", VOID))
        self.check("make\nf x = (tag void)", "f", (ONE,), ("tag", "void", ()))
        self.check("gather\nf x = (root x)", "f", (VOID,), ("tags", ()))
        self.check("gather\nf x = (root x)", "f", (TURNS,), ("tags", ("cons",)))
        self.check("gather\nf x = (one void)", "f", (ONE,), ("tags", ("void",)))
        self.check("gather\nf x = (none)", "f", (ONE,), ("tags", ()))
        self.check("test\nf x rank 0 = (if (is x void) (yes) (no))", "f", (VOID,), ("yes",))
        self.check("test\nf x rank 0 = (if (is x void) (yes) (no))", "f", (ONE,), ("no",))
        self.check("test\nf x y rank 0 = (if (same x y) (yes) (no))", "f", (VOID, VOID), ("yes",))
        self.check("test\nf x y rank 0 = (if (same x (tag void)) (yes) (no))", "f", (VOID, ONE), ("yes",))

    def test_cases(self):
        text = "gather\nf x = (case x (cons a b) (one cons) (two) (one two) else (one end))"
        for sheet, tag in [(ONES, "cons"), (TWO, "two"), (END, "end"), (ONE, "end"), (HALF, "cons")]:
            self.check(text, "f", (sheet,), ("tags", (tag,)))
        text = "make\nf x = (case x (cons a b) (case b (cons c d) (tag cons a d) (end) a else b) else x)"
        rest = (("cons", (1, 2)), ("one", ()), ("cons", (3, 0)), ("two", ()))
        self.check(text, "f", (TURNS,), ("tag", "cons", (("value", ONE), ("value", rest))))
        self.check(text, "f", (SHORT,), ("value", TWO))
        self.check(text, "f", ((("cons", (1, 1)), ("one", ())),), ("value", ONE))

    def test_names_that_hide_others(self):
        self.check("make\nf x = (case x (cons x y) (case y (cons y x) (tag cons x y) else x) else x)",
        "f", (SHORT,), ("value", TWO))
        self.check("make\nf x y = (case x (cons y x) (tag cons x y) else y)", "f", (SHORT, ONE), (
            "tag", "cons", (("value", END), ("value", TWO)),
        ))
        self.check("make\nf f = (case f (cons f one) (call f one) else f)", "f", (SHORT,), ("call", "f", (END,)))
        text = "gather\nf x = (union (case x (cons a x) (root x) else (none)) (root x))"
        self.check(text, "f", (SHORT,), ("union", ("tags", ("end",)), ("tags", ("cons",))))
        text = "make\nf x y = (case x (cons x b) (case y (cons y b) (tag cons x y) else b) else y)"
        self.check(text, "f", (SHORT, ONES), ("tag", "cons", (("value", TWO), ("value", ONE))))
        self.check(text, "f", (SHORT, ONE), ("value", END))

    def test_nothing_else_is_simplified(self):
        for text, expected in [
            ("test\nf x rank 0 = (or (yes) (call f x))", ("or", ("yes",), ("call", "f", (ONES,)))),
            ("test\nf x rank 0 = (and (no) (and (yes) (yes)))", ("and", ("no",), ("and", ("yes",), ("yes",)))),
            ("gather\nf x = (union (none) (union (one one) (one one)))",
             ("union", ("tags", ()), ("union", ("tags", ("one",)), ("tags", ("one",))))),
            ("measure\nf x = (plus 0 (plus 99 (never)))", ("plus", 0, ("plus", 99, ("never",)))),
            ("measure\nf x = (least (number 0) (most (number 1) (never)))",
             ("least", ("number", 0), ("most", ("number", 1), ("never",)))),
            ("make\nf x = (tag cons (tag one) x)", ("tag", "cons", (("tag", "one", ()), ("value", ONES)))),
            ("make\nf x = (call f x)", ("call", "f", (ONES,))),
        ]:
            self.check(text, "f", (LONG,), expected)

    def test_conditions(self):
        tests = "test\nt x rank 0 = (case x (one) (yes) else (no))"
        for condition, expected in [
            ("(is x one)", True), ("(is x two)", False), ("(is x void)", False), ("(not (is x one))", False),
            ("(not (not (is x one)))", True), ("(both (is x one) (is y two))", True),
            ("(both (is x one) (is y one))", False),
            ("(both (is x two) (is y two))", False), ("(either (is x two) (is y two))", True),
            ("(either (is x one) (is y one))", True), ("(either (is x two) (is y one))", False), ("(same x y)", False),
            ("(same x (tag one))", True), ("(same (tag cons x y) (tag cons (tag one) (tag two)))", True),
            ("(same (tag cons x y) (tag cons y x))", False), ("(ask t x)", True), ("(ask t y)", False),
            ("(ask t (tag one))", True),
            ("(is (tag cons x y) cons)", True), ("(both (ask t x) (not (ask t y)))", True),
        ]:
            word = "yes" if expected else "no"
            self.check(f"{tests}\ntest\nf x y rank 3 = (if {condition} (yes) (no))", "f", (ONE, TWO), (word,))
            found = ("value", ONE if expected else TWO)
            self.check(f"{tests}\nmake\nf x y = (if {condition} x y)", "f", (ONE, TWO), found)

    def test_same_values_of_different_sheets(self):
        text = "test\nf x y rank 0 = (if (same x y) (yes) (no))"
        for other in [ONES, LONG] + oracle.rewritings(ONES):
            self.check(text, "f", (LONG, other), ("yes",))
        self.check(text, "f", (ONES, TURNS), ("no",))
        self.check("test\nf x rank 0 = (if (same x (tag cons (tag one) x)) (yes) (no))", "f", (LONG,), ("yes",))
        self.check("test\nf x rank 0 = (if (same x (tag cons (tag one) x)) (yes) (no))", "f", (TURNS,), ("no",))

    def test_arguments_of_calls(self):
        self.check("make\nf x y = (tag cons (call f y x) (call f x x))", "f", (LONG, ONE), (
            "tag", "cons", (("call", "f", (ONE, ONES)), ("call", "f", (ONES, ONES))),
        ))
        self.check("test\nf x y z u rank 9 = (call f u z y x)", "f", (ONE, TWO, END, VOID),
        ("call", "f", (VOID, END, TWO, ONE)))

    def test_other_sheets_of_one_value(self):
        for name in ("swap", "every", "some", "items", "far"):
            for sheet in (ONES, TURNS, SHORT, LONG, VOID, HALF):
                expected = settle(PROGRAM, (name, (sheet,)))
                calls = needed_calls(PROGRAM, (name, (sheet,)))
                for other in oracle.rewritings(sheet):
                    self.assertEqual(settle(PROGRAM, (name, (other,))), expected)
                    self.assertEqual(needed_calls(PROGRAM, (name, (other,))), calls)

    def test_uses_of_earlier_functions(self):
        text = (
            "make\nall x = (case x (cons a b) (tag cons (tag one) (call all b)) else x)\n"
            "test\neven x rank 0 = (case x (cons a b) (call odd b) else (yes))\n"
            "odd x rank 0 = (case x (cons a b) (call even b) else (no))\n"
            "gather\nset x = (case x (cons a b) (union (root a) (call set b)) else (root x))\n"
            "measure\nlen x = (case x (cons a b) (plus 99 (call len b)) else (number 0))\n"
        )
        three = (("cons", (1, 2)), ("two", ()), ("cons", (1, 3)), ("cons", (1, 4)), ("end", ()))
        ones = (("cons", (1, 2)), ("one", ()), ("cons", (1, 3)), ("cons", (1, 4)), ("end", ()))
        more = (("cons", (1, 2)), ("one", ()), ("cons", (1, 3)), ("cons", (1, 4)), ("cons", (1, 5)), ("end", ()))
        for line, expected in [
            ("make\nf x = (call all x)", ("value", ones)),
            ("make\nf x = (tag cons (call all (tag cons x x)) (call all (tag two)))",
             ("tag", "cons", (("value", more), ("value", TWO)))),
            ("test\nf x rank 1 = (or (ask even x) (ask odd x))", ("or", ("no",), ("yes",))),
            ("test\nf x rank 1 = (and (ask odd (tag cons x x)) (ask odd (call all x)))", ("and", ("no",), ("yes",))),
            ("gather\nf x = (union (take set x) (take set (call all x)))",
             ("union", ("tags", ("end", "two")), ("tags", ("end", "one")))),
            ("measure\nf x = (plus 1 (take len (tag cons x x)))", ("plus", 1, ("number", 396))),
            ("measure\nf x = (if (ask odd x) (take len x) (never))", ("number", 297)),
        ]:
            self.check(text + line, "f", (three,), expected)
        self.check(text + "measure\nf x = (take len x)", "f", (ONES,), ("never",))
        self.check(text + "test\nf x rank 0 = (ask odd x)", "f", (ONES,), ("yes",))
        self.check(text + "make\nf x = (call all x)", "f", (TURNS,), ("value", ONES))
        self.check(text + "gather\nf x = (take set x)", "f", (VOID,), ("tags", ()))

    def test_several_groups_of_one_sort(self):
        text = (
            "make\nf x = (case x (cons a b) (tag cons b (call f a)) else x)\n"
            "make\ng x = (call f (tag cons x x))\nmake\nh x = (tag cons (call g (call f x)) (call h x))"
        )
        # f turns cons(two, end) into cons(end, two), and cons(y, y) into cons(y, f(y)).
        inner = (("cons", (1, 4)), ("cons", (2, 3)), ("end", ()), ("two", ()), ("cons", (3, 2)))
        self.check(text, "h", (SHORT,), ("tag", "cons", (("value", inner), ("call", "h", (SHORT,)))))
        self.check(text, "g", (ONE,), ("value", (("cons", (1, 1)), ("one", ()))))

    def test_makers_that_go_on_for_ever(self):
        for text, sheet, value in [
            ("make\nf x = (call f x)", ONE, VOID), ("make\nf x = (call g x)\ng x = (call f x)", ONE, VOID),
            ("make\nf x = (case x (cons a b) (call f b) else (tag one))", ONES, VOID),
            ("make\nf x = (case x (cons a b) (call f b) else (tag one))", TURNS, VOID),
            ("make\nf x = (case x (cons a b) (call f b) else (tag one))", SHORT, ONE),
            ("make\nf x = (tag cons x (call g x))\ng x = (call h x)\nh x = (call g x)", ONE, (("cons", (1, 2)),
            ("one", ()), ("void", ()))),
            ("make\nf x = (tag cons x (call f x))", ONE, ONES), ("make\nf x = (call g x)\ng x = x", TURNS, TURNS),
            ("make\nf x = (call g x)\ng x = (tag cons (tag two) (call f x))", TURNS, TWOS),
            ("make\nf x = (case x (cons a b) (if (is a one) (tag cons a (call f b)) (call f b)) else x)", TURNS, ONES),
            ("make\nf x = (case x (cons a b) (if (is a one) (tag cons a (call f b)) (call f b)) else x)", TWOS, VOID),
        ]:
            self.check_answer(text, "f", (sheet,), ("value", value))

    def test_loops_of_tests_decided_by_ranks(self):
        for text, sheet, answer in [
            ("f x rank 0 = (call f x)", ONE, True), ("f x rank 1 = (call f x)", ONE, False),
            ("f x rank 8 = (call f x)", ONE, True), ("f x rank 9 = (call f x)", ONE, False),
            ("f x rank 0 = (call g x)\ng x rank 1 = (call f x)", ONE, True),
            ("f x rank 2 = (call g x)\ng x rank 1 = (call f x)", ONE, False),
            ("f x rank 1 = (call g x)\ng x rank 2 = (call g x)", ONE, True),
            ("f x rank 0 = (call g x)\ng x rank 3 = (call g x)", ONE, False),
            ("f x rank 3 = (or (call f x) (call g x))\ng x rank 2 = (call f x)", ONE, True),
            ("f x rank 3 = (and (call f x) (call g x))\ng x rank 2 = (call f x)", ONE, False),
            ("f x rank 4 = (and (call f x) (call g x))\ng x rank 5 = (call f x)", ONE, True),
            ("f x rank 1 = (or (no) (or (call f x) (yes)))", ONE, True),
            ("f x rank 0 = (and (call f x) (no))", ONE, False),
            # Infinitely often two, finitely often two.
            ("f x rank 1 = (case x (cons a b) (if (is a two) (call g b) (call f b)) else (no))\n"
             "g x rank 0 = (case x (cons a b) (if (is a two) (call g b) (call f b)) else (no))", TURNS, True),
            ("f x rank 1 = (case x (cons a b) (if (is a two) (call g b) (call f b)) else (no))\n"
             "g x rank 0 = (case x (cons a b) (if (is a two) (call g b) (call f b)) else (no))", ONES, False),
            ("f x rank 2 = (case x (cons a b) (if (is a two) (call g b) (call f b)) else (no))\n"
             "g x rank 1 = (case x (cons a b) (if (is a two) (call g b) (call f b)) else (no))", TURNS, False),
            ("f x rank 2 = (case x (cons a b) (if (is a two) (call g b) (call f b)) else (no))\n"
             "g x rank 1 = (case x (cons a b) (if (is a two) (call g b) (call f b)) else (no))",
             (("cons", (1, 2)), ("two", ()), ("cons", (3, 2)), ("one", ())), True),
            ("f x rank 0 = (case x (cons a b) (call f b) else (no))", HALF, True),
            ("f x rank 0 = (case x (cons a b) (call f a) else (yes))", HALF, False),
        ]:
            self.check_answer("test\n" + text, "f", (sheet,), ("yes",) if answer else ("no",))

    def test_answers_of_gatherers_and_measures(self):
        for text, sheet, expected in [
            ("gather\nf x = (call f x)", ONE, ("tags", ())),
            ("gather\nf x = (union (call f x) (one void))", ONE, ("tags", ("void",))),
            ("gather\nf x = (case x (cons a b) (union (call f a) (call f b)) else (root x))", TURNS,
             ("tags", ("one", "two"))),
            ("gather\nf x = (case x (cons a b) (union (call f a) (call f b)) else (root x))", HALF, ("tags", ())),
            ("gather\nf x = (union (call g x) (one two))\ng x = (union (call f x) (one end))", ONE, ("tags", ("end",
            "two"))),
            ("measure\nf x = (call f x)", ONE, ("never",)), ("measure\nf x = (plus 0 (call f x))", ONE, ("never",)),
            ("measure\nf x = (least (plus 0 (call f x)) (number 7))", ONE, ("number", 7)),
            ("measure\nf x = (most (call f x) (number 7))", ONE, ("never",)),
            ("measure\nf x = (least (call f x) (plus 99 (call g x)))\ng x = (least (plus 1 (call f x)) (number 99))",
             ONE, ("number", 198)),
            ("measure\nf x = (most (number 3) (least (call g x) (number 9)))\ng x = (number 1)", ONE, ("number", 3)),
            ("measure\nf x = (least (most (call g x) (number 9)) (never))\ng x = (number 1)", ONE, ("number", 9)),
            ("measure\nf x = (most (call g x) (number 9))\ng x = (plus 5 (call g x))", ONE, ("never",)),
            ("measure\nf x = (case x (cons a b) (least (plus 99 (call f b)) (call g a)) else (number 0))\n"
             "g x = (case x (two) (number 99) else (never))", TURNS, ("number", 198)),
        ]:
            self.check_answer(text, "f", (sheet,), expected)

    def test_prices_taken_that_are_great(self):
        text = (
            "measure\nf x = (case x (cons a b) (plus 99 (call f b)) else (number 99))\n"
            "measure\ng x = (plus 99 (take f x))"
        )
        chain = tuple(("cons", (at + 1, at + 1)) for at in range(23)) + END
        self.check(text, "g", (chain,), ("plus", 99, ("number", 2376)))
        self.check_answer(text, "g", (chain,), ("number", 2475))

    def test_the_empty_signature(self):
        whole = parse_program(
            "tags\nmake\nf x = (case x else (tag void))\nmake\ng x y = (tag void)\n"
            "test\nt x rank 0 = (if (is x void) (yes) (no))"
        )
        check_program(whole)
        self.assertEqual(settle(whole, ("f", (VOID,))), ("value", VOID))
        self.assertEqual(settle(whole, ("g", (VOID * 3, VOID))), ("tag", "void", ()))
        self.assertEqual(settle(whole, ("t", (VOID,))), ("yes",))
        self.assertEqual(needed_calls(whole, ("t", (VOID * 2,))), (("t", (VOID,)),))

    def test_random_programs(self):
        for seed in range(300):
            maker = Maker(seed)
            whole, names = wrapped(maker.program((None, None, 1, 2)[seed % 4]))
            self.assertIs(is_program(whole), True)
            check_program(whole)
            run = Run(whole)
            for name, params in [(function[0], function[1]) for _, group in whole[1] for function in group]:
                sheets = tuple(maker.sheet(maker.chance.randint(1, 4)) for _ in params)
                least = (name, tuple(least_sheet(sheet) for sheet in sheets))
                self.assertEqual(settle(whole, (name, sheets)), run.settle(least))
                self.assertEqual(needed_calls(whole, (name, sheets)), tuple(sorted(run.needed(least))))

    def test_beyond_the_limits(self):
        body = "(union " * 40 + "(take e x)" + " (call f x))" * 40
        condition = "(not " * 40 + "(ask t x)" + ")" * 40
        whole = program(
            "gather\ne x = (root x)\ntest\nt x rank 0 = (yes)\n"
            f"gather\nf x = {body}\ngather\ng x = (if {condition} (take f x) (none))"
        )
        self.assertEqual(settle(whole, ("g", (ONES,))), ("tags", ("cons",)))
        found = settle(whole, ("f", (ONES,)))
        for _ in range(40):
            self.assertEqual((found[0], found[2]), ("union", ("call", "f", (ONES,))))
            found = found[1]
        self.assertEqual(found, ("tags", ("cons",)))

    def test_many_groups_of_deep_bodies(self):
        groups = []
        for at in range(20):
            inner = f"(take f{chr(96 + at)} x)" if at else "(root x)"
            groups.append(f"gather\nf{chr(97 + at)} x = " + "(union (none) " * 40 + inner + ")" * 40)
        whole = program("\n".join(groups) + "\ngather\nlast x = (take ft x)")
        self.assertEqual(settle(whole, ("last", (ONES,))), ("tags", ("cons",)))


class NeededCallsTest(Settling):
    def test_examples(self):
        self.assertEqual(needed_calls(PROGRAM, ("every", (LONG,))), (("every", (ONES,)),))

    def test_ascending(self):
        other = (("cons", (1, 2)), ("two", ()), ("cons", (3, 0)), ("one", ()))
        self.assertEqual(needed_calls(PROGRAM, ("swap", (TURNS,))), (("swap", (TURNS,)), ("swap", (other,))))
        self.assertEqual(needed_calls(PROGRAM, ("swap", (other,))), (("swap", (TURNS,)), ("swap", (other,))))
        self.assertEqual(needed_calls(PROGRAM, ("items", (SHORT,))), (("items", (SHORT,)), ("items", (END,))))
        whole = program("test\nz x rank 0 = (and (call b x) (call a x))\na x rank 0 = (call z x)\nb x rank 0 = (yes)")
        self.assertEqual(needed_calls(whole, ("z", (ONE,))), (("a", (ONE,)), ("b", (ONE,)), ("z", (ONE,))))

    def test_itself_alone(self):
        self.assertEqual(needed_calls(PROGRAM, ("far", (SHORT,))), (("far", (SHORT,)),))
        self.assertEqual(needed_calls(PROGRAM, ("every", (VOID,))), (("every", (VOID,)),))

    def test_both_sides_count(self):
        whole = program("test\nf x rank 0 = (or (yes) (and (no) (call g x)))\ng x rank 0 = (yes)")
        self.assertEqual(needed_calls(whole, ("f", (ONE,))), (("f", (ONE,)), ("g", (ONE,))))

    def test_earlier_calls_do_not_count(self):
        whole = program("make\nm x = (tag cons x (call m x))\nmake\nf x = (tag cons (call m x) (call f x))")
        self.assertEqual(needed_calls(whole, ("f", (ONE,))), (("f", (ONE,)),))

    def test_fields_of_tags(self):
        whole = program("make\nf x = (tag cons (tag cons (call g x) x) (call h x))\ng x = x\nh x = (call g x)")
        self.assertEqual(needed_calls(whole, ("f", (ONE,))), (("f", (ONE,)), ("g", (ONE,)), ("h", (ONE,))))

    def test_at_most_functions_times_tuples_of_parts(self):
        for seed in range(80):
            maker = Maker(seed, most_params=1)
            whole = maker.program()
            for _, functions in whole[1]:
                for name, _, _, _ in functions:
                    sheet = maker.sheet(5)
                    many = len(functions) * part_count(sheet)
                    for other in [sheet] + oracle.rewritings(sheet):
                        self.assertLessEqual(len(needed_calls(whole, (name, (other,)))), many)
        whole = program(
            "test\nf x y rank 0 = (case x (cons a b) (case y (cons c d) (and (call f b d) (call g d b)) else (no))"
            " else (no))\ng x y rank 1 = (call f x y)"
        )
        calls = needed_calls(whole, ("f", (ring(4, 4), ring(3, 3) + ring(3, 3))))
        self.assertEqual(len(calls), 4 * 3 * 2 * 2)
        self.assertEqual(needed_calls(whole, ("f", (ONES, LONG))), (("f", (ONES, ONES)), ("g", (ONES, ONES))))

    def test_four_hundred_calls(self):
        whole = program(ZIPPED)
        sheets = ring(19, 19), ring(21, 21)
        self.assertEqual(len(needed_calls(whole, ("zip", sheets))), 399)
        self.assertEqual(settle(whole, ("t", sheets)), ("yes",))
        self.assertEqual(settle(whole, ("g", sheets)), ("tags", ("one", "two")))
        self.assertEqual(settle(whole, ("m", sheets)), ("number", 19))
        zipped = settle(wrapped(whole)[0], ("usera", sheets))[1]
        self.assertEqual(part_count(zipped), len(zipped))
        self.assertEqual(len(needed_calls(whole, ("q", (zipped,)))), 19 + 1)
        self.assertEqual(len(needed_calls(whole, ("all", (zipped,)))), 399)


class ErrorsTest(Settling):
    def test_unknown_functions(self):
        for function in (settle, needed_calls):
            for name in ["swaps", "x", "cons", "make", "", "Swap"] + ANYTHING:
                for arguments in [(ONES,), (), (ONES, ONES)]:
                    with self.assertRaises(UnknownFunction) as caught:
                        function(PROGRAM, (name, arguments))
                    self.assertEqual(repr(caught.exception.name), repr(name))

    def test_wrong_numbers_of_arguments(self):
        whole = program("make\nf x y = x\ntest\nt x rank 0 = (yes)\ngather\ng x y z u = (none)\nmeasure\nm x = (never)")
        for function in (settle, needed_calls):
            for name, right in [("f", 2), ("t", 1), ("g", 4), ("m", 1)]:
                for count in range(7):
                    if count == right:
                        function(whole, (name, (ONES,) * count))
                        continue
                    with self.assertRaises(WrongArguments) as caught:
                        function(whole, (name, (ONES,) * count))
                    self.assertEqual(caught.exception.count, count)

    def test_arguments_unchanged(self):
        kept = copy.deepcopy((PROGRAM, LONG))
        for name in ("swap", "every", "some", "items", "far"):
            self.assertEqual(settle(PROGRAM, (name, (LONG,))), settle(PROGRAM, (name, (LONG,))))
            self.assertEqual(needed_calls(PROGRAM, (name, (LONG,))), needed_calls(PROGRAM, (name, (LONG,))))
        self.assertEqual((PROGRAM, LONG), kept)

    def test_by_name(self):
        self.assertEqual(settle(program=PROGRAM, call=("far", (END,))), ("never",))
        self.assertEqual(needed_calls(program=PROGRAM, call=("far", (END,))), (("far", (END,)),))
