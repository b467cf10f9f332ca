import copy
import itertools
import random
import unittest

from roundcalls.errors import NoRuns, UnknownFunction, WrongArguments
from roundcalls.programtexts import parse_program
from roundcalls.running import answer, runs
from roundcalls.settling import needed_calls
from roundcalls.sheets import least_sheet, part_count
from tests import oracle
from tests.examples import ANYTHING, LONG, ONES, PROGRAM, SHORT, SIGN, TURNS
from tests.programoracle import Run, came_to
from tests.randomprograms import Maker
from tests.test_settling import HALF, HEAD, ONE, TWO, TWOS, VOID, ZIPPED, program, ring

NAMES = ("swap", "every", "some", "items", "far")


def first_of(number, iterator):
    return list(itertools.islice(iterator, number))


def run_of_depth(run, call, depth):
    """The run of a depth of a call, by the words of point 23."""
    lowest = () if run.functions[call[0]][0] == "gather" else None
    if depth == 0:
        return lowest
    inner = {other: run_of_depth(run, other, depth - 1) for other in run.needed(call)} if depth > 1 else {
        other: lowest for other in run.needed(call)}
    return came_to(run.settle(call), inner)


class AnswerTest(unittest.TestCase):
    def test_examples(self):
        found = [answer(PROGRAM, "every", ONES), answer(PROGRAM, "some", ONES), answer(PROGRAM, "items", TURNS)]
        self.assertEqual(repr(found), repr([True, False, ("one", "two")]))
        found = [answer(PROGRAM, "far", TURNS), answer(PROGRAM, "far", ONES), answer(PROGRAM, "swap", ONES)]
        self.assertEqual(repr(found), repr([1, None, (("cons", (1, 0)), ("two", ()))]))

    def test_the_program_of_the_examples(self):
        for name, sheet, expected in [
            ("swap", SHORT, (("cons", (1, 2)), ("one", ()), ("end", ()))), ("swap", (("end", ()),), (("end", ()),)),
            ("swap", TURNS, (("cons", (1, 2)), ("two", ()), ("cons", (3, 0)), ("one", ()))), ("swap", VOID, VOID),
            ("swap", HALF, (("cons", (1, 0)), ("one", ()))), ("every", HALF, False), ("every", VOID, False),
            ("every", (("end", ()),), True), ("some", TURNS, True), ("some", VOID, False), ("items", SHORT, ("two",)),
            ("items", HALF, ()), ("items", VOID, ()), ("far", SHORT, 0), ("far", VOID, None), ("far", HALF, None),
        ]:
            for other in [sheet] + oracle.rewritings(sheet):
                self.assertEqual(repr(answer(PROGRAM, name, other)), repr(expected))

    def test_random_programs(self):
        for seed in range(400):
            maker = Maker(seed + 5000, most_params=1 + seed % 4)
            whole = maker.program((None, None, 1, 5)[seed % 4])
            run = Run(whole)
            for name, params in [(function[0], function[1]) for _, group in whole[1] for function in group]:
                sheets = tuple(maker.sheet(maker.chance.randint(1, 4)) for _ in params)
                expected = run.answer((name, tuple(least_sheet(sheet) for sheet in sheets)))
                self.assertEqual(repr(answer(whole, name, *sheets)), repr(expected), (whole, name, sheets))
                again = [random.Random(seed).choice(oracle.rewritings(sheet)) for sheet in sheets]
                self.assertEqual(answer(whole, name, *again), expected)

    def test_makers_without_tags(self):
        chain = tuple(("cons", (at + 1, at + 1)) for at in range(59)) + ONE
        last = program("make\nlast x = (case x (cons a b) (call last b) else x)")
        self.assertEqual(answer(last, "last", chain), ONE)
        self.assertEqual(answer(last, "last", ONES), VOID)
        two = program("make\nf x y = (case y (cons a b) (call f x b) else (call g x y))\n"
                      "g x y = (case x (cons a b) (call f b x) else (tag cons y x))")
        sheets = ring(399, 1)
        self.assertEqual(answer(two, "f", sheets, ONE), VOID)
        many = tuple(("cons", (at + 1, at + 1)) for at in range(300)) + TWO
        self.assertEqual(answer(last, "last", many), TWO)
        self.assertEqual(answer(program("make\nf x = (tag cons x (call g x))\ng x = (call g x)"), "f", ONE),
                         (("cons", (1, 2)), ("one", ()), ("void", ())))

    def test_void_in_fields_and_at_roots(self):
        self.assertEqual(answer(program("make\nf x = (tag cons x (tag void))"), "f", VOID), (("cons", (1, 1)), VOID[0]))
        self.assertEqual(answer(program("gather\nf x = (union (one void) (root x))"), "f", VOID), ("void",))
        self.assertEqual(answer(program("measure\nf x = (least (number 99) (case x else (number 0)))"), "f", VOID), 99)

    def test_least_rank_of_a_loop(self):
        for first, second in itertools.product(range(10), repeat=2):
            whole = program(f"test\nf x rank {first} = (call g x)\ng x rank {second} = (call f x)")
            self.assertIs(answer(whole, "f", ONE), min(first, second) % 2 == 0)
            whole = program(f"test\nf x rank {first} = (call g x)\ng x rank {second} = (call g x)")
            self.assertIs(answer(whole, "f", ONE), second % 2 == 0)

    def test_prices(self):
        chain = tuple(("cons", (at + 1, at + 1)) for at in range(59)) + ONE
        long = program("measure\nf x = (case x (cons a b) (plus 99 (call f b)) else (number 99))")
        self.assertEqual(answer(long, "f", chain), 60 * 99)
        loops = program("measure\nf x = (least (plus 0 (call g x)) (number 50))\ng x = (least (plus 0 (call f x))"
                        " (most (call f x) (number 3)))")
        self.assertEqual(answer(loops, "f", ONE), 50)
        self.assertEqual(answer(program("measure\nf x = (plus 0 (call f x))"), "f", ONE), None)

    def test_four_hundred_calls(self):
        whole = program(ZIPPED)
        sheets = ring(19, 19), ring(21, 21)
        zipped = answer(whole, "zip", *sheets)
        self.assertEqual(part_count(zipped), 399 + 4 + 2)
        self.assertEqual(len(needed_calls(whole, ("zip", sheets))), 399)
        self.assertEqual(answer(whole, "set", zipped), ("one", "two"))
        self.assertIs(answer(whole, "all", zipped), True)
        self.assertEqual(answer(whole, "q", zipped), 19)

    def test_sheets_that_are_not_least(self):
        wide = tuple(("cons", (24 + at % 2, (at + 1) % 24)) for at in range(24)) + ONE + TWO
        sheet = wide + tuple(("cons", (at % 26, 0)) for at in range(34))
        self.assertEqual(len(sheet), 60)
        self.assertEqual(answer(PROGRAM, "swap", sheet), answer(PROGRAM, "swap", TURNS))
        self.assertEqual(answer(PROGRAM, "far", sheet), 1)

    def test_great_bodies(self):
        body = "x"
        for at in range(9):
            body = f"(case x (cons a b) (if (is a one) (tag cons a (call f b)) (tag cons b (call g a))) else {body})"
        whole = program(f"make\nf x = {body}\ng x = (case x (one) (call f x) else (tag two))")
        run = Run(whole)
        for sheet in (ONES, TURNS, SHORT, LONG, HALF, TWOS):
            self.assertEqual(answer(whole, "f", sheet), run.answer(("f", (least_sheet(sheet),))))

    def test_many_groups(self):
        count = 700
        names = [f"{chr(97 + at // 676)}{chr(97 + at // 26 % 26)}{chr(97 + at % 26)}x" for at in range(count)]
        lines = [f"make\n{names[0]} x = x"]
        for at in range(1, count):
            lines.append(f"make\n{names[at]} x = (tag cons (tag one) (call {names[at - 1]} x))")
        whole = parse_program("\n".join([HEAD] + lines))
        self.assertEqual(part_count(answer(whole, names[-1], TWO)), count + 1)
        tests = [f"test\n{names[0]} x rank 0 = (yes)"]
        for at in range(1, count):
            tests.append(f"test\n{names[at]} x rank 0 = (if (ask {names[at - 1]} x) (yes) (no))")
        self.assertIs(answer(parse_program("\n".join([HEAD] + tests)), names[-1], TWO), True)


class RunsTest(unittest.TestCase):
    def test_gatherers_and_measures(self):
        self.assertEqual(first_of(4, runs(PROGRAM, "items", TURNS)), [(), ("one",), ("one", "two"), ("one", "two")])
        self.assertEqual(first_of(4, runs(PROGRAM, "far", TURNS)), [None, None, 1, 1])
        self.assertEqual(first_of(4, runs(PROGRAM, "far", ONES)), [None] * 4)
        self.assertEqual(first_of(3, runs(PROGRAM, "far", SHORT)), [None, 0, 0])

    def test_makers(self):
        self.assertEqual(first_of(2, runs(PROGRAM, "swap", ONES)), [
            ("cons", (None, None)), ("cons", (("two", ()), ("cons", (None, None)))),
        ])
        made = answer(PROGRAM, "swap", TURNS)
        self.assertEqual(first_of(9, runs(PROGRAM, "swap", TURNS)), [oracle.top(made, depth) for depth in range(9)])
        self.assertEqual(first_of(3, runs(PROGRAM, "swap", VOID)), [("void", ())] * 3)

    def test_without_end(self):
        for name in ("items", "far"):
            self.assertEqual(first_of(500, runs(PROGRAM, name, TURNS))[-1], answer(PROGRAM, name, TURNS))
        tree = program("make\nf x = (tag cons (call f x) (call f x))")
        self.assertEqual(len(first_of(60, runs(tree, "f", ONE))), 60)

    def test_random_programs(self):
        for seed in range(150):
            maker = Maker(seed + 7000, most_params=1 + seed % 3)
            whole = maker.program(1 + seed % 3, ("gather", "measure", "make"))
            run = Run(whole)
            for sort, group in whole[1]:
                for name, params, _, _ in group:
                    sheets = tuple(maker.sheet(maker.chance.randint(1, 3)) for _ in params)
                    call = (name, tuple(least_sheet(sheet) for sheet in sheets))
                    found = first_of(5, runs(whole, name, *sheets))
                    if sort == "make":
                        expected = [oracle.top(run.answer(call), depth) for depth in range(5)]
                    elif len(run.needed(call)) > 6:
                        continue
                    else:
                        expected = [run_of_depth(run, call, depth) for depth in range(5)]
                    self.assertEqual(repr(found), repr(expected))

    def test_they_grow_and_fall(self):
        for seed in range(100):
            maker = Maker(seed + 8000)
            whole = maker.program(1, ("gather", "measure"))
            sort, group = whole[1][0]
            for name, params, _, _ in group:
                sheets = tuple(maker.sheet(4) for _ in params)
                found = first_of(400, runs(whole, name, *sheets))
                for before, after in zip(found, found[1:]):
                    if sort == "gather":
                        self.assertLessEqual(set(before), set(after))
                    else:
                        self.assertTrue(before is None or (after is not None and after <= before))
                self.assertEqual(found[-1], answer(whole, name, *sheets))

    def test_an_iterator(self):
        for name in ("items", "far", "swap"):
            one, other = runs(PROGRAM, name, TURNS), runs(PROGRAM, name, LONG)
            self.assertIs(iter(one), one)
            mixed = [(next(one), next(other)) for _ in range(5)]
            self.assertEqual([pair[0] for pair in mixed], first_of(5, runs(PROGRAM, name, TURNS)))
            self.assertEqual([pair[1] for pair in mixed], first_of(5, runs(PROGRAM, name, ONES)))


class ErrorsTest(unittest.TestCase):
    def check(self, error, value, deed):
        with self.assertRaises(error) as caught:
            deed()
        self.assertIs(type(caught.exception), error)
        self.assertEqual(repr(list(vars(caught.exception).values())), repr([value]))

    def test_unknown_functions(self):
        for name in ["swaps", "swa", "x", "cons", "make", "Swap", " swap"] + ANYTHING:
            for sheets in [(ONES,), (), (ONES, ONES)]:
                self.check(UnknownFunction, name, lambda: answer(PROGRAM, name, *sheets))
                steps = runs(PROGRAM, name, *sheets)
                self.check(UnknownFunction, name, lambda: next(steps))

    def test_wrong_numbers_of_arguments(self):
        for name in NAMES:
            for sheets in [(), (ONES, ONES), (LONG,) * 5]:
                self.check(WrongArguments, len(sheets), lambda: answer(PROGRAM, name, *sheets))
                steps = runs(PROGRAM, name, *sheets)
                self.check(WrongArguments, len(sheets), lambda: next(steps))

    def test_no_runs(self):
        for name in ("every", "some"):
            steps = runs(PROGRAM, name, ONES)
            self.check(NoRuns, name, lambda: next(steps))
            self.assertEqual(list(steps), [])

    def test_by_name(self):
        self.check(WrongArguments, 0, lambda: answer(name="far", program=PROGRAM))
        self.check(WrongArguments, 0, lambda: answer(PROGRAM, name="far"))
        self.check(UnknownFunction, "nope", lambda: answer(name="nope", program=PROGRAM))
        self.check(WrongArguments, 0, lambda: next(runs(name="every", program=PROGRAM)))
        self.check(UnknownFunction, "nope", lambda: next(runs(program=PROGRAM, name="nope")))

    def test_arguments_unchanged(self):
        kept = copy.deepcopy((PROGRAM, LONG, SIGN))
        for name in NAMES:
            self.assertEqual(answer(PROGRAM, name, LONG), answer(PROGRAM, name, LONG))
        self.assertEqual((PROGRAM, LONG, SIGN), kept)
