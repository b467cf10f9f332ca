import copy
import random
import unittest

from roundcalls.checking import check_program
from roundcalls.errors import RoundCallsError, UnknownName, UnknownTag, WrongCount, WrongPlace, WrongSort
from roundcalls.programs import is_program
from roundcalls.programtexts import parse_program
from tests.examples import PROGRAM, SIGN
from tests.programoracle import faults
from tests.randomprograms import NAMES, Maker, item_at, places, with_item

HEAD = "tags cons 2 end 0 one 0 two 0 wrap 1"
# Functions of every sort, to be used by the group behind them: its number is 4.
EARLIER = HEAD + """
make
em x = x
emtwo x y = x
test
et x rank 0 = (yes)
ettwo x y rank 0 = (yes)
gather
eg x = (none)
measure
eq x = (never)"""
BODY = (1, 4, 1, 0, 3)


def first_fault(program):
    try:
        return check_program(program)
    except RoundCallsError as error:
        return type(error), error.path


class CheckProgramTest(unittest.TestCase):
    def check(self, text, expected):
        """Check the first error of the text of a program: None, or a class and a path."""
        program = parse_program(text)
        self.assertEqual(first_fault(program), expected, text)
        found = faults(program)
        self.assertEqual(found[0] if found else None, expected, text)

    def check_bodies(self, sort, rows):
        """Check bodies of a function f with the parameters x and y, behind a function of each sort.

        Each row has a body, the class of its first error, and what stands behind the path of the body.
        """
        ranked = " rank 0" if sort == "test" else ""
        last = {"make": "x", "test": "(yes)", "gather": "(none)", "measure": "(never)"}[sort]
        for body, error, *steps in rows:
            text = f"{EARLIER}\n{sort}\nf x y{ranked} = {body}\ng x{ranked} = {last}\n{sort}\nlater x{ranked} = {last}"
            self.check(text, error and (error, BODY + tuple(steps)))

    def test_examples(self):
        with self.assertRaises(UnknownName) as caught:
            check_program((SIGN, (("gather", (("items", ("x",), 0, ("root", "y")),)),)))
        self.assertEqual(caught.exception.path, (1, 0, 1, 0, 3))
        self.assertIsNone(check_program(PROGRAM))

    def test_no_errors(self):
        self.check_bodies("make", [
            ("x", None), ("(tag void)", None), ("(tag cons x (tag wrap (call f y x)))", None), ("(call g x)", None),
            ("(call em (call em (tag cons x y)))", None), ("(case x (cons x y) (call f y x) (end) y else x)", None),
            ("(if (both (ask et (call em x)) (not (is x void))) x y)", None), ("(case x else y)", None),
            ("(tag wrap (call em (tag wrap x)))", None), ("(if (either (same x (tag one)) (is y one)) x y)", None),
            ("(case x (wrap f) (case f (wrap g) (call f f g) else f) else x)", None), ("(call g y)", None),
        ])
        self.check_bodies("test", [
            ("(and (or (yes) (no)) (call f y x))", None), ("(or (ask et (call em x)) (ask ettwo x (tag one)))", None),
            ("(if (ask et x) (call g x) (no))", None), ("(case x (cons a b) (call f a b) else (call f x y))", None),
        ])
        self.check_bodies("gather", [
            ("(union (union (none) (one void)) (union (one two) (root x)))", None), ("(call f y x)", None),
            ("(union (take eg (tag cons (call em x) x)) (call g y))", None), ("(if (ask et x) (none) (root y))", None),
        ])
        self.check_bodies("measure", [
            ("(least (plus 1 (call f x y)) (most (number 0) (take eq (call em x))))", None), ("(call g x)", None),
        ])
        self.check("tags\nmake\nf x = (case x else x)", None)

    def test_unknown_names_of_values(self):
        self.check_bodies("make", [
            ("z", UnknownName), ("f", UnknownName), ("(tag cons x z)", UnknownName, 2, 1), ("one", UnknownName),
            ("(tag wrap (tag wrap z))", UnknownName, 2, 0, 2, 0), ("(call f x z)", UnknownName, 2, 1),
            ("(call em z)", UnknownName, 2, 0), ("(call em (tag wrap z))", UnknownName, 2, 0, 2, 0),
            ("(case z (one) x else x)", UnknownName), ("(case x (wrap a) z else x)", UnknownName, 2, 0, 2),
            ("(case x (end) x (wrap a) x else a)", UnknownName, 3),
            ("(case x (one) x (wrap a) z else x)", UnknownName, 2, 1, 2),
            ("(case x (cons a b) x (wrap c) a else x)", UnknownName, 2, 1, 2),
            ("(if (is z one) x y)", UnknownName, 1, 1), ("(if (is x one) z y)", UnknownName, 2),
            ("(if (is x one) x z)", UnknownName, 3), ("(if (same z x) x y)", UnknownName, 1, 1),
            ("(if (same x z) x y)", UnknownName, 1, 2), ("(if (ask et z) x y)", UnknownName, 1, 2, 0),
            ("(if (not (is z one)) x y)", UnknownName, 1, 1, 1),
            ("(if (both (is x one) (same x z)) x y)", UnknownName, 1, 2, 2),
            ("(if (either (is z one) (is x one)) x y)", UnknownName, 1, 1, 1),
            ("(if (ask et (call em z)) x y)", UnknownName, 1, 2, 0, 2, 0),
        ])
        self.check_bodies("test", [
            ("(call f x z)", UnknownName, 2, 1), ("(ask et z)", UnknownName, 2, 0),
            ("(case z else (yes))", UnknownName),
            ("(and (yes) (call f z x))", UnknownName, 2, 2, 0),
            ("(or (ask et (tag wrap z)) (yes))", UnknownName, 1, 2, 0, 2, 0),
        ])
        self.check_bodies("gather", [
            ("(root z)", UnknownName), ("(union (root x) (root z))", UnknownName, 2),
            ("(take eg z)", UnknownName, 2, 0),
            ("(case x (wrap a) (root a) else (root a))", UnknownName, 3),
        ])
        self.check_bodies("measure", [
            ("(plus 1 (call f x z))", UnknownName, 2, 2, 1), ("(least (never) (case z else (never)))", UnknownName, 2),
            ("(most (take eq z) (never))", UnknownName, 1, 2, 0),
        ])

    def test_names_known_inside_branches_alone(self):
        self.check_bodies("gather", [
            ("(case x (cons a b) (case b (wrap c) (root c) else (root a)) else (none))", None),
            ("(case x (cons a b) (case b (wrap c) (root c) else (root c)) else (none))", UnknownName, 2, 0, 2, 3),
            ("(union (case x (wrap a) (root a) else (none)) (root a))", UnknownName, 2),
            ("(case x (wrap x) (root x) else (root x))", None),
        ])

    def test_unknown_functions(self):
        for sort, word in [("make", "call"), ("test", "call"), ("gather", "call"), ("measure", "call"), ("test", "ask"),
                           ("gather", "take"), ("measure", "take")]:
            self.check_bodies(sort, [
                (f"({word} h x)", UnknownName), (f"({word} later x)", UnknownName), (f"({word} x x)", UnknownName),
                (f"({word} one x)", UnknownName), (f"({word} h)", UnknownName),
            ])
        self.check_bodies("make", [
            ("(tag wrap (call h x))", UnknownName, 2, 0), ("(tag wrap (call later x))", UnknownName, 2, 0),
            ("(call em (call later x))", UnknownName, 2, 0), ("(if (ask h x) x y)", UnknownName, 1),
            ("(if (ask later x) x y)", UnknownName, 1), ("(if (is (call h x) one) x y)", UnknownName, 1, 1),
        ])

    def test_unknown_tags(self):
        self.check_bodies("make", [
            ("(tag red)", UnknownTag), ("(tag red x y x y)", UnknownTag), ("(tag wrap (tag red))", UnknownTag, 2, 0),
            ("(case x (red) x else x)", UnknownTag, 2, 0), ("(case x (one) x (red a b) x else x)", UnknownTag, 2, 1),
            ("(case x (void) x else x)", UnknownTag, 2, 0), ("(case x (void a) a else x)", UnknownTag, 2, 0),
            ("(if (is x red) x y)", UnknownTag, 1), ("(if (not (is x red)) x y)", UnknownTag, 1, 1),
            ("(if (ask et (tag red)) x y)", UnknownTag, 1, 2, 0), ("(if (same (tag red) x) x y)", UnknownTag, 1, 1),
            ("(call f x (tag red))", UnknownTag, 2, 1),
        ])
        self.check_bodies("gather", [
            ("(one red)", UnknownTag), ("(union (one one) (one x))", UnknownTag, 2), ("(one void)", None),
            ("(take eg (tag red))", UnknownTag, 2, 0), ("(case x (red) (none) else (none))", UnknownTag, 2, 0),
        ])
        self.check_bodies("test", [("(if (is x void) (yes) (no))", None), ("(ask et (tag red))", UnknownTag, 2, 0)])
        self.check_bodies("measure", [("(take eq (tag x))", UnknownTag, 2, 0)])
        self.check("tags\ngather\nf x = (one one)", (UnknownTag, (1, 0, 1, 0, 3)))

    def test_wrong_counts_of_fields(self):
        self.check_bodies("make", [
            ("(tag cons x)", WrongCount), ("(tag cons x y x)", WrongCount), ("(tag one x)", WrongCount),
            ("(tag wrap)", WrongCount),
            ("(tag void x)", WrongCount), ("(tag wrap (tag cons))", WrongCount, 2, 0),
            ("(case x (cons a) x else x)", WrongCount, 2, 0),
            ("(case x (cons a b) x (one a) x else x)", WrongCount, 2, 1),
            ("(case x (wrap) x else x)", WrongCount, 2, 0), ("(if (same x (tag wrap)) x y)", WrongCount, 1, 2),
            ("(case x (wrap a b c d) x else x)", WrongCount, 2, 0), ("(call em (tag one x))", WrongCount, 2, 0),
        ])
        self.check_bodies("test", [
            ("(ask et (tag cons))", WrongCount, 2, 0), ("(case x (end a) (yes) else (no))", WrongCount, 2, 0),
        ])
        self.check_bodies("measure", [("(take eq (tag one x))", WrongCount, 2, 0)])

    def test_wrong_counts_of_arguments(self):
        self.check_bodies("make", [
            ("(call f x)", WrongCount), ("(call f x y x)", WrongCount), ("(call f)", WrongCount),
            ("(call em)", WrongCount),
            ("(call em x y)", WrongCount), ("(tag wrap (call g))", WrongCount, 2, 0), ("(call emtwo x)", WrongCount),
            ("(if (ask et) x y)", WrongCount, 1), ("(if (ask ettwo x) x y)", WrongCount, 1),
            ("(if (ask et x y) x y)", WrongCount, 1), ("(call em (call em))", WrongCount, 2, 0),
        ])
        self.check_bodies("test", [
            ("(call f x)", WrongCount), ("(ask et)", WrongCount), ("(ask ettwo x)", WrongCount),
            ("(and (yes) (call g))", WrongCount, 2),
        ])
        self.check_bodies("gather", [
            ("(call f)", WrongCount), ("(take eg x y)", WrongCount), ("(union (call g x y) (none))", WrongCount, 1),
        ])
        self.check_bodies("measure", [("(call f x)", WrongCount), ("(plus 0 (take eq))", WrongCount, 2)])

    def test_wrong_sorts(self):
        self.check_bodies("make", [
            ("(call et x)", WrongSort), ("(call eg x)", WrongSort), ("(call eq x)", WrongSort),
            ("(tag wrap (call et x))", WrongSort, 2, 0), ("(call em (call eg x))", WrongSort, 2, 0),
            ("(if (ask em x) x y)", WrongSort, 1), ("(if (ask eg x) x y)", WrongSort, 1),
            ("(if (ask eq x) x y)", WrongSort, 1),
            ("(if (ask g x) x y)", WrongSort, 1), ("(if (is (call et x) one) x y)", WrongSort, 1, 1),
            ("(if (same x (call eq x)) x y)", WrongSort, 1, 2),
        ])
        self.check_bodies("test", [
            ("(call em x)", WrongSort), ("(call eg x)", WrongSort), ("(call eq x)", WrongSort),
            ("(ask em x)", WrongSort),
            ("(ask eg x)", WrongSort), ("(ask eq x)", WrongSort), ("(ask et (call et x))", WrongSort, 2, 0),
            ("(ask et (call g x))", WrongSort, 2, 0), ("(call f x (call g x))", WrongSort, 2, 1),
            ("(if (is (call f x y) one) (yes) (no))", WrongSort, 1, 1),
        ])
        self.check_bodies("gather", [
            ("(call em x)", WrongSort), ("(call et x)", WrongSort), ("(call eq x)", WrongSort),
            ("(take em x)", WrongSort),
            ("(take et x)", WrongSort), ("(take eq x)", WrongSort), ("(take eg (call g x))", WrongSort, 2, 0),
            ("(if (ask g x) (none) (none))", WrongSort, 1), ("(take eg (call eg x))", WrongSort, 2, 0),
        ])
        self.check_bodies("measure", [
            ("(call eg x)", WrongSort), ("(take eg x)", WrongSort), ("(take em x)", WrongSort),
            ("(call et x)", WrongSort),
            ("(plus 3 (call em x))", WrongSort, 2), ("(take et x)", WrongSort),
            ("(take eq (call eq x))", WrongSort, 2, 0),
        ])

    def test_wrong_places(self):
        self.check_bodies("make", [
            ("(call g (tag one))", WrongPlace), ("(call f x (tag wrap y))", WrongPlace),
            ("(call g (call em x))", WrongPlace),
            ("(tag wrap (call g (tag one)))", WrongPlace, 2, 0), ("(call em (call g x))", WrongPlace, 2, 0),
            ("(call em (tag wrap (call g x)))", WrongPlace, 2, 0, 2, 0), ("(call g (call g x))", WrongPlace, 2, 0),
            ("(if (is (call g x) one) x y)", WrongPlace, 1, 1),
            ("(if (same x (tag wrap (call g x))) x y)", WrongPlace, 1, 2, 2, 0),
            ("(if (ask et (call g x)) x y)", WrongPlace, 1, 2, 0),
            ("(if (not (is (call g x) one)) x y)", WrongPlace, 1, 1, 1),
            ("(if (either (is x one) (ask et (call f x y))) x y)", WrongPlace, 1, 2, 2, 0),
        ])
        self.check_bodies("test", [
            ("(call g (tag one))", WrongPlace), ("(call f x (call em y))", WrongPlace), ("(call et x)", WrongPlace),
            ("(ask g x)", WrongPlace), ("(and (yes) (ask f x y))", WrongPlace, 2),
            ("(if (ask g x) (yes) (no))", WrongPlace, 1),
            ("(if (not (ask f x y)) (yes) (no))", WrongPlace, 1, 1), ("(call ettwo x (tag one))", WrongPlace),
        ])
        self.check_bodies("gather", [
            ("(call eg x)", WrongPlace), ("(take g x)", WrongPlace), ("(call g (tag one))", WrongPlace),
            ("(union (none) (take f x y))", WrongPlace, 2), ("(call g (call em x))", WrongPlace),
        ])
        self.check_bodies("measure", [
            ("(call eq x)", WrongPlace), ("(take g x)", WrongPlace), ("(plus 1 (call g (tag one)))", WrongPlace, 2),
            ("(least (take f x y) (never))", WrongPlace, 1),
        ])

    def test_several_errors_of_one_part(self):
        self.check_bodies("make", [
            ("(call h)", UnknownName), ("(call later (tag one))", UnknownName), ("(call et)", WrongCount),
            ("(tag red x)", UnknownTag), ("(tag wrap)", WrongCount), ("(if (ask g) x y)", WrongCount, 1),
            ("(if (ask g x) x y)", WrongSort, 1), ("(case x (void a) x else x)", UnknownTag, 2, 0),
        ])
        self.check_bodies("test", [
            ("(call eg x)", WrongSort), ("(call em)", WrongCount), ("(call et (tag one))", WrongPlace),
            ("(ask f)", WrongCount),
            ("(call em (tag one))", WrongSort),
        ])
        self.check_bodies("gather", [
            ("(take f)", WrongCount), ("(take eq x x)", WrongCount), ("(take em x)", WrongSort),
        ])

    def test_order_of_parts(self):
        self.check_bodies("make", [
            # Parts inside come before the part itself.
            ("(tag red z)", UnknownName, 2, 0), ("(call h z)", UnknownName, 2, 0),
            ("(call em (tag cons) z)", WrongCount, 2, 0),
            ("(tag cons (tag red) z)", UnknownTag, 2, 0), ("(tag cons z (tag red))", UnknownName, 2, 0),
            ("(if (is z red) x y)", UnknownName, 1, 1), ("(if (ask h (call g x)) x y)", WrongPlace, 1, 2, 0),
            # A case comes before everything inside it, a branch before its body.
            ("(case z (red) z else z)", UnknownName), ("(case x (red) z else z)", UnknownTag, 2, 0),
            ("(case x (one) z (red) x else x)", UnknownName, 2, 0, 2), ("(case x (one a) z else x)", WrongCount, 2, 0),
            ("(case x (one) x (two) z else (tag red))", UnknownName, 2, 1, 2),
            ("(case x (one) (tag red) else z)", UnknownTag, 2, 0, 2),
            # Otherwise from left to right.
            ("(if (is x red) z z)", UnknownTag, 1), ("(if (is x one) (tag red) z)", UnknownTag, 2),
            ("(if (both (is x red) (is z one)) x y)", UnknownTag, 1, 1),
            ("(if (same (tag red) z) x y)", UnknownTag, 1, 1),
        ])
        self.check_bodies("gather", [
            ("(union (one red) (root z))", UnknownTag, 1), ("(union (root z) (one red))", UnknownName, 1),
            ("(union (call eg x) (one red))", WrongPlace, 1), ("(take g (tag red))", UnknownTag, 2, 0),
        ])
        self.check_bodies("measure", [
            ("(most (take eq) (take h))", WrongCount, 1), ("(plus 1 (call h z))", UnknownName, 2, 2, 0),
        ])

    def test_order_of_functions_and_groups(self):
        for text, expected in [
            ("make\nf x = x\ng x = (tag red)\nmake\nh x = y", (UnknownTag, (1, 0, 1, 1, 3))),
            ("make\nf x = x\nmake\nh x = x\ni x = y\ntest\nt x rank 0 = (ask u)", (UnknownName, (1, 1, 1, 1, 3))),
            ("test\nt x rank 0 = (call t)\nmake\nf x = z", (WrongCount, (1, 0, 1, 0, 3))),
            ("test\nt x rank 0 = (yes)\nmake\nf x = (call t x)\ng x = y", (WrongSort, (1, 1, 1, 0, 3))),
        ]:
            self.check(f"{HEAD}\n{text}", expected)

    def test_groups_of_one_sort(self):
        self.check(f"{HEAD}\nmake\nf x = x\nmake\ng x = (call f (tag wrap x))", None)
        self.check(f"{HEAD}\nmake\nf x = x\ng x = (call f (tag wrap x))", (WrongPlace, (1, 0, 1, 1, 3)))
        self.check(f"{HEAD}\nmake\ng x = (call f x)\nmake\nf x = x", (UnknownName, (1, 0, 1, 0, 3)))
        self.check(f"{HEAD}\ntest\nf x rank 0 = (yes)\ntest\ng x rank 0 = (ask f x)", None)
        self.check(f"{HEAD}\ntest\nf x rank 0 = (yes)\ng x rank 0 = (ask f x)", (WrongPlace, (1, 0, 1, 1, 3)))
        self.check(f"{HEAD}\ntest\nf x rank 0 = (yes)\ntest\ng x rank 0 = (call f x)", (WrongPlace, (1, 1, 1, 0, 3)))

    def test_random_programs(self):
        for seed in range(300):
            self.assertIsNone(check_program(Maker(seed).program()))

    def test_random_changes(self):
        chance = random.Random(9)
        met = set()
        for seed in range(250):
            program = Maker(seed).program()
            for _ in range(12):
                changed = program
                for _ in range(chance.randint(1, 3)):
                    changed = self.with_a_change(changed, chance)
                found = faults(changed)
                self.assertEqual(first_fault(changed), found[0] if found else None, changed)
                met.add(found[0][0] if found else None)
        self.assertEqual(met, {None, UnknownName, UnknownTag, WrongCount, WrongSort, WrongPlace})

    def with_a_change(self, program, chance):
        """A program of the same form with another name, or with an item more, less or in another place."""
        functions = [function[0] for _, members in program[1] for function in members]
        tags = [tag for tag, _ in program[0]] + ["void"]
        found = list(places(program[1]))
        while True:
            path = chance.choice(found)
            item = item_at(program[1], path)
            if isinstance(item, str):
                other = chance.choice(chance.choice([functions, functions, NAMES, tags]))
            elif item and isinstance(item, tuple):
                at = chance.randrange(len(item))
                other = chance.choice([
                    item[:at] + item[at + 1:], item[:at] + item[at:at + 1] + item[at:],
                    item_at(program[1], chance.choice(found)), item_at(program[1], chance.choice(found)),
                ])
            else:
                continue
            changed = (program[0], with_item(program[1], path, other))
            if changed != program and is_program(changed):
                return changed

    def test_arguments_unchanged(self):
        kept = copy.deepcopy(PROGRAM)
        self.assertEqual(check_program(PROGRAM), check_program(PROGRAM))
        wrong = (SIGN, (("gather", (("items", ("x",), 0, ("root", "y")),)),))
        kept_wrong = copy.deepcopy(wrong)
        self.assertEqual(first_fault(wrong), first_fault(wrong))
        self.assertEqual((PROGRAM, wrong), (kept, kept_wrong))

    def test_by_name(self):
        self.assertIsNone(check_program(program=PROGRAM))
