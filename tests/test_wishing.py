import copy
import random
import unittest

from roundcalls.checking import check_program
from roundcalls.errors import NotSimple, UnknownFunction
from roundcalls.programs import is_program
from roundcalls.programtexts import parse_program
from roundcalls.running import answer
from roundcalls.sheets import is_sheet, least_sheet, part_count
from roundcalls.wishing import no_wish_holds, wish
from tests import oracle
from tests.changes import changed
from tests.examples import A, ANYTHING, B, PROGRAM, SIGN
from tests.test_settling import HEAD, program
from tests.wishoracle import needed, plans, rows_hold

LIST = ("case", "x", (("cons", ("a", "b"), ("and", ("call", "unit", (A,)), ("call", "list", (B,)))),), ("no",))
UNIT = ("case", "x", (("one", (), ("yes",)),), ("no",))
WISHES = (SIGN, (("test", (("list", ("x",), 0, LIST), ("unit", ("x",), 1, UNIT))),))
NO_WISHES = (SIGN, (("test", (("list", ("x",), 1, LIST), ("unit", ("x",), 1, UNIT))),))
SIGNATURES = [(), (("a", 0),), (("b", 1),), (("a", 0), ("b", 1), ("c", 2)), (("c", 2),), (("a", 0), ("t", 3)),
              (("b", 1), ("c", 2), ("t", 3)), SIGN]


def simple_body(chance, names, tests, depth):
    """A simple body that calls only with some names."""
    roll = chance.random()
    if depth > 0 and roll < 0.35:
        return "or", simple_body(chance, names, tests, depth - 1), simple_body(chance, names, tests, depth - 1)
    if depth > 0 and roll < 0.7:
        cut = chance.randint(0, len(names))
        mixed = chance.sample(names, len(names))
        return "and", simple_body(chance, mixed[:cut], tests, depth - 1), simple_body(
            chance, mixed[cut:], tests, depth - 1)
    if names and roll < 0.95:
        return "call", chance.choice(tests), (("part", chance.choice(names)),)
    return (chance.choice(["yes", "no", "no"]),)


def random_wishes(seed, most=4, signatures=SIGNATURES):
    """A program with a group of simple tests."""
    chance = random.Random(seed)
    signature = chance.choice(signatures)
    tests = ["f", "g", "h", "yes"][:chance.randint(1, most)]
    members = []
    for name in tests:
        branches = []
        for tag, count in signature:
            if chance.random() < 0.85:
                names = tuple(chance.sample(["x", "y", "z", "u"], count))
                branches.append((tag, names, simple_body(chance, list(names), tests, chance.randint(0, 3))))
        default = chance.choice([("no",), ("no",), ("no",), ("yes",)])
        members.append((name, ("x",), chance.randint(0, 9), ("case", "x", tuple(branches), default)))
    return chance, (signature, (("test", tuple(members)),))


class WishTest(unittest.TestCase):
    def check(self, whole, name, expected=None):
        """Check a wish; expected is whether there is a value. Return the answer."""
        found = wish(whole, name)
        self.assertEqual(wish(whole, name), found)
        if expected is not None:
            self.assertEqual(found[0], "value" if expected else "none", whole)
        if found[0] == "value":
            sheet = found[1]
            self.assertIs(is_sheet(whole[0], sheet), True)
            self.assertEqual(least_sheet(sheet), sheet)
            self.assertIs(answer(whole, name, sheet), True, (whole, name, sheet))
            self.assertLessEqual(part_count(sheet), len(needed(whole, name)) + 1)
        else:
            self.assertEqual((found[0], len(found)), ("none", 2))
            self.assertTrue(rows_hold(whole, name, found[1]), (whole, name, found))
            self.assertIs(no_wish_holds(whole, name, found[1]), True)
        return found

    def check_text(self, text, name, expected, head=HEAD):
        whole = parse_program(f"{head}\ntest\n{text}")
        check_program(whole)
        return self.check(whole, name, expected)

    def test_examples(self):
        self.assertEqual(wish(WISHES, "list"), ("value", (("cons", (1, 0)), ("one", ()))))

    def test_no_value(self):
        found = self.check(NO_WISHES, "list", False)
        self.assertEqual(found[1][0][0], "list")
        self.assertEqual([pick[:2] for pick in found[1][0][1]], [("cons", ((0, "unit"), (1, "list")))])

    def test_against_all_plans(self):
        held = 0
        for seed in range(500):
            _, whole = random_wishes(seed)
            self.assertIs(is_program(whole), True)
            check_program(whole)
            for name in [function[0] for function in whole[1][0][1]]:
                if len(needed(whole, name)) > 3:
                    self.check(whole, name)
                    continue
                expected = any(answer(whole, name, sheet) for sheet in plans(whole, name))
                self.check(whole, name, expected)
                held += expected
        self.assertGreater(held, 150)

    def test_against_all_small_values(self):
        for seed in range(40):
            _, whole = random_wishes(seed, 2, [oracle.SMALL_SIGN])
            for name in [function[0] for function in whole[1][0][1]]:
                size = len(needed(whole, name)) + 1
                sheets = {least_sheet(sheet) for sheet in oracle.all_sheets(oracle.SMALL_SIGN, size)}
                self.check(whole, name, any(answer(whole, name, sheet) for sheet in sheets))

    def test_infinite_values_alone(self):
        found = self.check_text("f x rank 0 = (case x (cons a b) (and (call f a) (call f b)) else (no))", "f", True)
        self.assertEqual(found[1], (("cons", (0, 0)),))
        self.check_text("f x rank 1 = (case x (cons a b) (and (call f a) (call f b)) else (no))", "f", False)
        self.check_text("f x rank 1 = (case x (cons a b) (call g b) else (no))\n"
                        "g x rank 0 = (case x (cons a b) (call f b) else (no))", "f", True)
        self.check_text("f x rank 1 = (case x (cons a b) (call g b) else (no))\n"
                        "g x rank 2 = (case x (cons a b) (call f b) else (no))", "f", False)

    def test_finite_values_alone(self):
        self.check_text("f x rank 1 = (case x (cons a b) (and (call f a) (call f b)) (end) (yes) else (no))", "f", True)

    def test_void_is_never_accepted(self):
        self.check_text("f x rank 0 = (case x else (yes))", "f", False, "tags")
        self.check_text("f x rank 0 = (case x else (yes))", "f", True)
        self.check_text("f x rank 0 = (case x (end) (no) (one) (no) else (no))", "f", False)
        rows = self.check_text("f x rank 0 = (case x else (no))", "f", False, "tags")[1]
        self.assertEqual([row[:2] for row in rows], [("f", ())])

    def test_void_where_no_test_looks(self):
        found = self.check_text("f x rank 0 = (case x (cons a b) (yes) else (no))", "f", True)
        self.assertEqual(found[1], (("cons", (1, 1)), ("void", ())))

    def test_alternatives(self):
        text = ("f x rank 1 = (case x (cons a b) (or (and (call g a) (or (call h b) (yes))) (call f b)) (one) (no)"
                " else (no))\ng x rank 1 = (case x (two) (yes) else (no))\nh x rank 1 = (case x (end) (no) else (no))")
        found = self.check_text(text, "f", True)
        self.assertIs(rows_hold(parse_program(f"{HEAD}\ntest\n{text}"), "f", ()), False)
        self.assertEqual(found[1], (("cons", (1, 2)), ("two", ()), ("void", ())))
        found = self.check_text("f x rank 3 = (case x (cons a b) (or (and (call f b) (call g a)) (call f a))"
                                " else (no))\ng x rank 1 = (case x (one) (yes) else (no))", "f", False)
        self.assertEqual([pick[:2] for pick in found[1][0][1]], [
            ("cons", ((0, "f"),)), ("cons", ((0, "g"), (1, "f"))),
        ])

    def test_parts_for_each_test(self):
        found = self.check_text(
            "f x rank 0 = (case x (cons a b) (and (call g a) (call h b)) else (no))\n"
            "g x rank 3 = (case x (cons a b) (and (call g a) (call h b)) (end) (yes) else (no))\n"
            "h x rank 2 = (case x (cons a b) (and (call i a) (call f b)) else (no))\n"
            "i x rank 1 = (case x (cons a b) (and (call i a) (call g b)) (two) (yes) else (no))", "f", True)
        self.assertLessEqual(part_count(found[1]), 5)

    def test_many_alternatives_for_many_tags(self):
        tags = " ".join(f"t{letter} 3" for letter in "abcdefghijkl")
        lines = ["f", "g", "h", "i"]
        bodies = " ".join(
            f"(t{letter} x y z) (and (or (call f x) (or (call g x) (or (call h x) (call i x))))"
            " (and (or (call f y) (or (call g y) (call h y))) (or (call f z) (or (call g z) (call i z)))))"
            for letter in "abcdefghijkl"
        )
        text = "\n".join(f"{name} x rank {2 * at + 1} = (case x {bodies} else (no))" for at, name in enumerate(lines))
        self.check_text(text, "f", False, "tags " + tags)
        self.check_text(text.replace("rank 1", "rank 0"), "f", True, "tags " + tags)


class NoWishHoldsTest(unittest.TestCase):
    def test_changed_rows(self):
        held = failed = 0
        for seed in range(400):
            chance, whole = random_wishes(seed)
            name = whole[1][0][1][0][0]
            found = wish(whole, name)
            if found[0] == "value":
                for thing in (found, found[1], (), ((name, (), (0,) * 10),)):
                    self.assertIs(no_wish_holds(whole, name, thing), False)
                continue
            for _ in range(60):
                thing = changed(chance, found[1], [name, (name, (), (0,) * 10)])
                for _ in range(chance.randrange(2)):
                    thing = changed(chance, thing)
                expected = rows_hold(whole, name, thing)
                self.assertIs(no_wish_holds(whole, name, thing), expected, (whole, name, thing))
                held, failed = held + expected, failed + (not expected)
        self.assertGreater(held, 200)
        self.assertGreater(failed, 1000)

    def test_rows_by_another_hand(self):
        rows = wish(NO_WISHES, "list")[1]
        picks = (("cons", ((0, "unit"), (1, "list")), (1, "list")),)
        zeros = (0,) * 10
        unit = ("unit", (("one", (), None),), zeros)
        for thing, expected in [
            ((("list", picks, zeros),), True), ((("list", picks, (3,) + tuple(range(9))),), True), (rows, True),
            ((("list", picks, (0,) * 9),), False), ((("list", picks, zeros[:9] + (True,)),), False),
            ((("list", (), zeros),), False), ((("list", picks * 2, zeros),), False),
            ((("list", picks, zeros),) * 2, False), ((("list", picks, zeros), unit), False), ((), False),
            ((("list", (("cons", ((0, "unit"), (True, "list")), (1, "list")),), zeros),), False),
            ((("list", (("cons", ((0, "unit"), (1, "list")), (True, "list")),), zeros),), False),
            ((("list", (("cons", ((0, "unit"), (1, "list")), (0, "unit")),), zeros),), False),
            ((("list", (("cons", ((0, "unit"), (1, "list")), (1, "unit")),), zeros),), False),
            ((("list", (("cons", ((1, "list"), (0, "unit")), (1, "list")),), zeros),), False),
            (("none", rows), False), ([("list", picks, zeros)], False), ((["list", picks, zeros],), False),
        ]:
            self.assertIs(no_wish_holds(NO_WISHES, "list", thing), expected, thing)

    def test_numbers(self):
        for rank, other in [(0, 1), (1, 0), (2, 4), (3, 3), (4, 2), (8, 9), (9, 8)]:
            whole = program(f"test\nf x rank {rank} = (case x (cons a b) (call g a) else (no))\n"
                            f"g x rank {other} = (case x else (no))")
            for place in range(10):
                for mine, theirs in [(1, 0), (0, 0), (0, 1)]:
                    numbers = [tuple(number if at == place else 0 for at in range(10)) for number in (mine, theirs)]
                    thing = (("f", (("cons", ((0, "g"),), (0, "g")),), numbers[0]), ("g", (), numbers[1]))
                    taken = [number[0:rank + 1:2] for number in numbers]
                    expected = taken[1] < taken[0] if rank % 2 == 0 else taken[1] <= taken[0]
                    self.assertIs(no_wish_holds(whole, "f", thing), expected)

    def test_any_value(self):
        for thing in ANYTHING:
            self.assertIs(no_wish_holds(NO_WISHES, "list", thing), False)
            for wrapped in [(thing,), (("list", thing, (0,) * 10),), (("list", (thing,), (0,) * 10),), [thing],
                            (("list", (("cons", ((0, "unit"), (1, "list")), thing),), (0,) * 10),),
                            ((thing, (), (0,) * 10),), (("list", (), thing),)]:
                self.assertIs(no_wish_holds(NO_WISHES, "list", wrapped), False)


class ErrorsTest(unittest.TestCase):
    def check(self, error, name, whole):
        for deed in (lambda: wish(whole, name), lambda: no_wish_holds(whole, name, None),
                     lambda: no_wish_holds(whole, name, ())):
            with self.assertRaises(error) as caught:
                deed()
            self.assertIs(type(caught.exception), error)
            self.assertEqual(repr(caught.exception.name), repr(name))

    def test_unknown_functions(self):
        for name in ["lists", "x", "", "Unit"] + ANYTHING:
            self.check(UnknownFunction, name, WISHES)

    def test_other_sorts(self):
        for name in ("swap", "items", "far", "every", "some"):
            self.check(NotSimple, name, PROGRAM)

    def test_not_simple(self):
        good = "k x rank 0 = (case x (cons a b) (call k a) else (no))"
        for line in [
            "f x y rank 0 = (case x else (no))", "f x rank 0 = (yes)", "f x rank 0 = (call k x)",
            "f x y rank 0 = (case y else (no))", "f x rank 0 = (or (case x else (no)) (no))",
            "f x rank 0 = (case x else (call f x))", "f x rank 0 = (case x else (or (yes) (no)))",
            "f x rank 0 = (case x else (case x else (no)))", "f x rank 0 = (case x (cons a b) (call f x) else (no))",
            "f x rank 0 = (case x (cons a b) (case a else (no)) else (no))",
            "f x rank 0 = (case x (cons a b) (if (is x one) (yes) (no)) else (no))",
            "f x rank 0 = (case x (cons a b) (and (call f a) (call k a)) else (no))",
            "f x rank 0 = (case x (cons a b) (and (call f a) (or (call k b) (call k a))) else (no))",
            "f x rank 0 = (case x (cons a b) (and (or (no) (and (yes) (call k b))) (or (call k b) (yes))) else (no))",
            "f x rank 0 = (case x (cons a b) (or (no) (ask e a)) else (no))",
            "f x rank 0 = (case x (cons a b) (or (ask e a) (no)) else (no))",
            "f x rank 0 = (case x (cons a b) (and (if (is a one) (yes) (no)) (call f b)) else (no))",
            "f x rank 0 = (case x (cons a b) (or (and (no) (case a else (no))) (call f b)) else (no))",
            "f x rank 0 = (case x (cons a b) (or (no) (call g a a)) else (no))\ng x y rank 0 = (yes)",
            "f x rank 0 = (case x (cons a b) (and (no) (call g a)) else (no))\ng x rank 0 = (yes)",
            "f x rank 0 = (case x (cons a b) (or (yes) (call g a)) else (no))\n"
            "g x rank 0 = (case x (one) (and (no) (yes)) else (case x else (no)))",
        ]:
            whole = program(f"test\ne x rank 0 = (yes)\ntest\n{good}\n{line}")
            self.assertIsNone(needed(whole, "f"))
            self.check(NotSimple, "f", whole)
            self.assertEqual(wish(whole, "k")[0], "value")

    def test_simple(self):
        for line in [
            "f x rank 0 = (case x (cons a b) (and (call f a) (or (call f b) (no))) else (yes))",
            "f x rank 0 = (case x (cons x b) (or (and (call f x) (call f b)) (call f x)) else (no))",
            "f x rank 0 = (case x (cons a b) (or (call f a) (and (yes) (call g a))) else (no))\n"
            "g y rank 1 = (case y (one) (and (yes) (no)) else (yes))",
            "f x rank 0 = (case x else (no))\ng x y rank 0 = (if (same x y) (yes) (no))",
        ]:
            whole = program(f"test\n{line}")
            self.assertIn(wish(whole, "f")[0], ("value", "none"))
            self.assertIsNotNone(needed(whole, "f"))

    def test_by_name(self):
        self.assertEqual(wish(name="list", program=WISHES), wish(WISHES, "list"))
        rows = wish(NO_WISHES, "list")[1]
        self.assertIs(no_wish_holds(thing=rows, name="list", program=NO_WISHES), True)
        with self.assertRaises(UnknownFunction):
            wish(name="nope", program=WISHES)
        with self.assertRaises(NotSimple):
            no_wish_holds(name="far", thing=(), program=PROGRAM)

    def test_arguments_unchanged(self):
        thing = [["list", []]]
        kept = copy.deepcopy((NO_WISHES, thing))
        self.assertIs(no_wish_holds(NO_WISHES, "list", thing), False)
        self.assertEqual((NO_WISHES, thing), kept)
