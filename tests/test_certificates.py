import copy
import random
import unittest

from roundcalls.certificates import certificate, certificate_holds
from roundcalls.errors import NoCertificate, UnknownFunction, WrongArguments
from roundcalls.leading import led_back
from roundcalls.running import answer
from roundcalls.settling import needed_calls
from roundcalls.sheets import least_sheet
from tests import oracle
from tests.certificateoracle import holds, other_certificate
from tests.changes import changed
from tests.examples import ANYTHING, LONG, ONES, PROGRAM, SHORT, TURNS
from tests.programoracle import Run
from tests.randomprograms import Maker
from tests.test_settling import END, HALF, ONE, TWO, VOID, ZIPPED, program, ring

SORTS = ("test", "gather", "measure")
REST = (("cons", (1, 2)), ("two", ()), ("cons", (3, 0)), ("one", ()))
ZEROS = (0,) * 10


def random_calls(seeds, most_params=3, sorts=SORTS, groups=(1, 1, 2, None), size=4):
    """Programs by chance, with their runs, and calls of their last groups with arguments that need not be least."""
    for seed in seeds:
        maker = Maker(seed, most_params=1 + seed % most_params)
        many = groups[seed % len(groups)]
        whole = maker.program(many, sorts if many == 1 else ("make",) + sorts)
        run = Run(whole)
        for sort, group in whole[1]:
            if sort in sorts:
                for name, params, _, _ in group:
                    sheets = tuple(maker.sheet(maker.chance.randint(1, size)) for _ in params)
                    yield maker, whole, run, (name, tuple(least_sheet(sheet) for sheet in sheets)), sheets


def answer_of(thing, sort, call):
    """The answer that a certificate for a call proves."""
    if sort == "test":
        return thing[0]
    row = [row for row in thing if row[0] == call][0]
    return tuple(tag for tag, _ in row[1]) if sort == "gather" else row[1]


class CertificateTest(unittest.TestCase):
    def test_examples(self):
        self.assertIs(certificate_holds(PROGRAM, "far", (SHORT,), certificate(PROGRAM, "far", SHORT)), True)
        call = ("every", (ONES,))
        good = (True, ((call, (call,), (0,) * 10),))
        self.assertIs(certificate_holds(PROGRAM, "every", (LONG,), good), True)
        self.assertIs(certificate_holds(PROGRAM, "some", (LONG,), good), False)

    def test_the_program_of_the_examples(self):
        run = Run(PROGRAM)
        for name in ("every", "some", "items", "far"):
            for sheet in (ONES, TURNS, SHORT, LONG, VOID, HALF, END, ONE):
                found = certificate(PROGRAM, name, sheet)
                call = (name, (least_sheet(sheet),))
                self.assertTrue(holds(run, call, found))
                self.assertEqual(answer_of(found, run.functions[name][0], call), answer(PROGRAM, name, sheet))
                for other in [sheet] + oracle.rewritings(sheet):
                    self.assertIs(certificate_holds(PROGRAM, name, (other,), found), True)

    def test_random_programs(self):
        for _, whole, run, call, sheets in random_calls(range(600)):
            found = certificate(whole, call[0], *sheets)
            self.assertTrue(holds(run, call, found), (whole, call))
            self.assertEqual(repr(answer_of(found, run.functions[call[0]][0], call)), repr(run.answer(call)))
            self.assertIs(certificate_holds(whole, call[0], sheets, found), True)
            self.assertEqual(certificate(whole, call[0], *sheets), found)

    def test_certificates_by_another_hand(self):
        for _, whole, run, call, sheets in random_calls(range(1000, 1500)):
            found = other_certificate(run, call)
            self.assertTrue(holds(run, call, found))
            self.assertIs(certificate_holds(whole, call[0], sheets, found), True, (whole, call))

    def test_changed_certificates(self):
        held = failed = 0
        for maker, whole, run, call, sheets in random_calls(range(2000, 2200), size=3):
            for found in (certificate(whole, call[0], *sheets), other_certificate(run, call)):
                for _ in range(25):
                    thing = changed(maker.chance, found, [call])
                    for _ in range(maker.chance.randrange(2)):
                        thing = changed(maker.chance, thing)
                    expected = holds(run, call, thing)
                    self.assertIs(certificate_holds(whole, call[0], sheets, thing), expected, (whole, call, thing))
                    held, failed = held + expected, failed + (not expected)
        self.assertGreater(held, 100)
        self.assertGreater(failed, 1000)

    def test_other_numbers_in_the_same_order(self):
        for maker, whole, run, call, sheets in random_calls(range(3000, 3150)):
            found = certificate(whole, call[0], *sheets)
            sort = run.functions[call[0]][0]
            for raised in (lambda n: 3 * n + 5, lambda n: n + 10 ** 30, lambda n: n * n):
                if sort == "test":
                    rows = [(mine, used, tuple(map(raised, numbers))) for mine, used, numbers in found[1]]
                    thing = found[0], tuple(rows)
                elif sort == "gather":
                    thing = tuple((mine, tuple((tag, raised(n)) for tag, n in tags)) for mine, tags in found)
                else:
                    thing = tuple((mine, price, raised(n)) for mine, price, n in found)
                self.assertIs(certificate_holds(whole, call[0], sheets, thing), True)

    def test_rows_of_further_calls(self):
        # The plan needs g alone, but a row of h, which is needed too, may stand there and may be used.
        whole = program("test\nf x rank 2 = (or (call g x) (call h x))\ng x rank 1 = (yes)\nh x rank 4 = (call h x)\n"
                        "k x rank 0 = (yes)")
        f, g, h, k = [(name, (ONE,)) for name in "fghk"]
        for rows, expected in [
            (((f, (g,), ZEROS), (g, (), ZEROS)), True),
            (((f, (h,), ZEROS), (h, (h,), ZEROS)), True),
            (((f, (g, h), ZEROS), (g, (), ZEROS), (h, (h,), ZEROS)), True),
            (((f, (g,), ZEROS), (g, (), ZEROS), (h, (h,), ZEROS)), True),
            (((f, (g,), ZEROS), (g, (h,), (0, 1) + ZEROS[2:]), (h, (h,), ZEROS)), False),
            (((f, (g,), (0, 1) + ZEROS[2:]), (g, (h,), (0, 1) + ZEROS[2:]), (h, (h,), ZEROS)), True),
            (((f, (f, g), ZEROS), (g, (), ZEROS)), True),
            (((f, (g,), ZEROS), (g, (g,), ZEROS)), False),
            (((f, (h, g), ZEROS), (g, (), ZEROS), (h, (h,), ZEROS)), False),
            (((f, (g, g), ZEROS), (g, (), ZEROS)), False),
            (((g, (), ZEROS), (f, (g,), ZEROS)), False),
            (((f, (g,), ZEROS), (g, (), ZEROS), (g, (), ZEROS)), False),
            (((f, (g, h), ZEROS), (g, (), ZEROS)), False),
            (((f, (g,), ZEROS), (g, (), ZEROS), (k, (), ZEROS)), False),
            (((g, (), ZEROS),), False),
            (((f, (), ZEROS),), False),
            ((), False),
        ]:
            self.assertIs(certificate_holds(whole, "f", (ONE,), (True, rows)), expected, rows)
            self.assertIs(certificate_holds(whole, "f", (ONE,), (False, rows)), False, rows)

    def test_numbers_of_tests(self):
        for rank, other, answered in [(1, 1, True), (3, 5, True), (0, 0, False), (2, 4, False), (8, 9, False)]:
            body = "(yes)" if answered else "(no)"
            whole = program(f"test\nf x rank {rank} = (call g x)\ng x rank {other} = {body}")
            f, g = ("f", (ONE,)), ("g", (ONE,))
            for place in range(10):
                for mine, theirs in [(1, 0), (0, 0), (0, 1)]:
                    numbers = [ZEROS[:place] + (number,) + ZEROS[place + 1:] for number in (mine, theirs)]
                    thing = answered, ((f, (g,), numbers[0]), (g, (), numbers[1]))
                    taken = [number[0 if not answered else 1:rank + 1:2] for number in numbers]
                    expected = taken[1] < taken[0]
                    self.assertIs(certificate_holds(whole, "f", (ONE,), thing), expected, (rank, place, mine, theirs))

    def test_numbers_that_do_not_count(self):
        call = ("every", (ONES,))
        for numbers in [(5,) * 10, tuple(range(10)), (10 ** 39,) * 10]:
            self.assertIs(certificate_holds(PROGRAM, "every", (ONES,), (True, ((call, (call,), numbers),))), True)
        for numbers in [(0,) * 9, (0,) * 11, [0] * 10, (0,) * 9 + (-1,), (0,) * 9 + (True,), (0,) * 9 + (None,), 0]:
            self.assertIs(certificate_holds(PROGRAM, "every", (ONES,), (True, ((call, (call,), numbers),))), False)

    def test_bools_in_place_of_integers(self):
        call = ("every", (ONES,))
        for sheet in [(("cons", (True, False)), ("one", ())), (("cons", (1, False)), ("one", ())), LONG]:
            bad = ("every", (sheet,))
            for rows in [((bad, (call,), ZEROS),), ((call, (bad,), ZEROS),), ((bad, (bad,), ZEROS),)]:
                self.assertIs(certificate_holds(PROGRAM, "every", (ONES,), (True, rows)), False)
            items = ((("items", (sheet,)), (("one", 0),)),)
            self.assertIs(certificate_holds(PROGRAM, "items", (ONES,), items), False)
            self.assertIs(certificate_holds(PROGRAM, "far", (ONES,), ((("far", (sheet,)), None, 0),)), False)
        self.assertIs(certificate_holds(PROGRAM, "every", (ONES,), (1, ((call, (call,), ZEROS),))), False)
        self.assertIs(certificate_holds(PROGRAM, "items", (ONES,), ((("items", (ONES,)), (("one", False),)),)), False)
        short = certificate(PROGRAM, "far", SHORT)
        self.assertEqual(short[0][1:], (0, 0))
        self.assertIs(certificate_holds(PROGRAM, "far", (SHORT,), ((short[0][0], False, 0),)), False)
        self.assertIs(certificate_holds(PROGRAM, "far", (SHORT,), ((short[0][0], 0, False),)), False)
        self.assertIs(certificate_holds(PROGRAM, "far", (ONES,), ((("far", (ONES,)), None, True),)), False)
        self.assertIs(certificate_holds(PROGRAM, "far", (ONES,), ((("far", (ONES,)), 0, 0),)), False)

    def test_gatherers(self):
        whole = program("gather\nf x = (union (call g x) (one two))\ng x = (union (call f x) (one void))")
        f, g = ("f", (ONE,)), ("g", (ONE,))
        for mine, theirs, expected in [
            ((("two", 0), ("void", 1)), (("two", 1), ("void", 0)), True),
            ((("two", 9), ("void", 1)), (("two", 10), ("void", 0)), True),
            ((("two", 0), ("void", 0)), (("two", 1), ("void", 0)), False),
            ((("two", 1), ("void", 1)), (("two", 1), ("void", 0)), False),
            ((("void", 1), ("two", 0)), (("two", 1), ("void", 0)), False),
            ((("two", 0), ("two", 1), ("void", 1)), (("two", 1), ("void", 0)), False),
            ((("two", 0),), (("two", 1), ("void", 0)), False), ((("two", 0),), (("void", 0),), False),
            ((("one", 3), ("two", 0), ("void", 1)), (("one", 3), ("two", 1), ("void", 0)), False),
            ((("one", 3), ("two", 0), ("void", 1)), (("one", 4), ("two", 1), ("void", 0)), False),
            ((("two", 0), ("void", 1), ("zoo", 0)), (("two", 1), ("void", 0)), False),
        ]:
            self.assertIs(certificate_holds(whole, "f", (ONE,), ((f, mine), (g, theirs))), expected, (mine, theirs))
        self.assertIs(certificate_holds(whole, "f", (ONE,), ((f, (("two", 0), ("void", 1))),)), False)
        self.assertIs(certificate_holds(whole, "f", (ONE,), ((g, (("two", 1), ("void", 0))),
                                                             (f, (("two", 0), ("void", 1))))), False)

    def test_measures(self):
        whole = program(
            "measure\nf x = (least (plus 0 (call g x)) (number 7))\ng x = (least (plus 0 (call f x)) (never))"
        )
        f, g = ("f", (ONE,)), ("g", (ONE,))
        for mine, theirs, expected in [
            ((7, 0), (7, 1), True), ((7, 3), (7, 100), True), ((7, 1), (7, 1), False), ((7, 1), (7, 0), False),
            ((6, 0), (6, 1), False), ((None, 0), (None, 0), False), ((7, 0), (None, 1), False), ((8, 0), (8, 1), False),
            ((7, 0), (7, "1"), False), ((7, -1), (7, 0), False), (("7", 0), (7, 1), False),
        ]:
            self.assertIs(certificate_holds(whole, "f", (ONE,), ((f,) + mine, (g,) + theirs)), expected, (mine, theirs))
        loop = program("measure\nf x = (plus 0 (call f x))")
        for price, expected in [(None, True), (0, False), (99, False)]:
            for number in (0, 5):
                self.assertIs(certificate_holds(loop, "f", (ONE,), ((f, price, number),)), expected)

    def test_certificates_of_other_calls(self):
        sheets = (ONES, TURNS, REST, SHORT, VOID, END)
        for name in ("every", "some", "items", "far"):
            run = Run(PROGRAM)
            for sheet in sheets:
                found = certificate(PROGRAM, name, sheet)
                for other_name in ("every", "some", "items", "far"):
                    for other in sheets:
                        expected = holds(run, (other_name, (other,)), found)
                        self.assertIs(certificate_holds(PROGRAM, other_name, (other,), found), expected)

    def test_great_certificates(self):
        whole = program(ZIPPED)
        sheets = ring(19, 19), ring(21, 21)
        zipped = answer(whole, "zip", *sheets)
        for name in ("all", "set", "q", "t", "g", "m"):
            arguments = sheets if name in "tgm" else (zipped,)
            found = certificate(whole, name, *arguments)
            self.assertIs(certificate_holds(whole, name, arguments, found), True)
        self.assertEqual(len(certificate(whole, "all", zipped)[1]), 399)
        rows = certificate(whole, "all", zipped)[1]
        self.assertIs(certificate_holds(whole, "all", (zipped,), (True, rows[:-1])), False)
        self.assertIs(certificate_holds(whole, "all", (zipped,), (False, rows)), False)

    def test_every_rank_on_long_loops(self):
        for ranks in [(0, 1), (1, 0), (9, 8), (2, 1), (5, 6), (3, 3), (4, 4)]:
            whole = program(
                f"test\nf x rank {ranks[0]} = "
                "(case x (cons a b) (case a (one) (call f b) else (call g b)) else (yes))\n"
                f"g x rank {ranks[1]} = (case x (cons a b) (case a (two) (call g b) else (call f b)) else (no))"
            )
            run = Run(whole)
            for sheet in (ring(30, 7), ring(12, 12), ONES):
                call = ("f", (least_sheet(sheet),))
                self.assertTrue(holds(run, call, certificate(whole, "f", sheet)))
                self.assertIs(certificate_holds(whole, "f", (sheet,), certificate(whole, "f", sheet)), True)
            self.assertIs(certificate_holds(whole, "f", (ring(400, 7),), certificate(whole, "f", ring(400, 7))), True)

    def test_programs_that_the_package_made(self):
        wider, name = led_back((PROGRAM[0], PROGRAM[1][:2]), "swap", "every")
        run = Run(wider)
        for sheet in (ONES, TURNS, SHORT, VOID):
            self.assertTrue(holds(run, (name, (sheet,)), certificate(wider, name, sheet)))
            self.assertIs(certificate_holds(wider, name, (sheet,), certificate(wider, name, sheet)), True)


class ErrorsTest(unittest.TestCase):
    def check(self, error, value, deed):
        with self.assertRaises(error) as caught:
            deed()
        self.assertIs(type(caught.exception), error)
        self.assertEqual(repr(list(vars(caught.exception).values())), repr([value]))

    def test_unknown_functions(self):
        for name in ["swaps", "x", "Far", "", "far "] + ANYTHING:
            for sheets in [(ONES,), (), (ONES, ONES)]:
                self.check(UnknownFunction, name, lambda: certificate(PROGRAM, name, *sheets))
                for thing in (None, (), (True, ())):
                    self.check(UnknownFunction, name, lambda: certificate_holds(PROGRAM, name, sheets, thing))

    def test_wrong_numbers_of_arguments(self):
        for name in ("swap", "every", "items", "far"):
            for sheets in [(), (ONES, ONES), (ONES,) * 5]:
                self.check(WrongArguments, len(sheets), lambda: certificate(PROGRAM, name, *sheets))
                self.check(WrongArguments, len(sheets), lambda: certificate_holds(PROGRAM, name, sheets, None))

    def test_makers(self):
        self.check(NoCertificate, "swap", lambda: certificate(PROGRAM, "swap", ONES))
        for thing in ANYTHING + [certificate(PROGRAM, "every", ONES)]:
            self.check(NoCertificate, "swap", lambda: certificate_holds(PROGRAM, "swap", (ONES,), thing))

    def test_any_value(self):
        for name in ("every", "some", "items", "far"):
            for sheet in (ONES, SHORT, VOID):
                for thing in ANYTHING:
                    expected = holds(Run(PROGRAM), (name, (sheet,)), thing)
                    self.assertIs(certificate_holds(PROGRAM, name, (sheet,), thing), expected)
                    for wrapped in [(True, thing), (False, (thing,)), (thing,), ((thing, (), ()),), [thing]]:
                        self.assertIs(certificate_holds(PROGRAM, name, (sheet,), wrapped), False)

    def test_by_name(self):
        self.assertIs(certificate_holds(
            thing=certificate(PROGRAM, "far", ONES), arguments=(LONG,), name="far", program=PROGRAM,
        ), True)
        self.check(NoCertificate, "swap", lambda: certificate_holds(
            arguments=(ONES,), program=PROGRAM, thing=0, name="swap",
        ))
        self.check(WrongArguments, 0, lambda: certificate(name="far", program=PROGRAM))
        self.check(UnknownFunction, "a", lambda: certificate(program=PROGRAM, name="a"))

    def test_arguments_unchanged(self):
        thing = [True, [[("every", [ONES]), {}]]]
        kept = copy.deepcopy((PROGRAM, LONG, thing))
        for name in ("every", "items", "far"):
            for _ in range(2):
                self.assertIs(certificate_holds(PROGRAM, name, (LONG,), thing), False)
            self.assertEqual(certificate(PROGRAM, name, LONG), certificate(PROGRAM, name, ONES))
        self.assertEqual((PROGRAM, LONG, thing), kept)

    def test_needed_calls_alone_have_rows(self):
        chance = random.Random(1)
        for _, whole, run, call, sheets in random_calls(range(4000, 4060), sorts=("gather", "measure")):
            found = certificate(whole, call[0], *sheets)
            self.assertEqual(tuple(row[0] for row in found), needed_calls(whole, call))
            at = chance.randrange(len(found))
            self.assertIs(certificate_holds(whole, call[0], sheets, found[:at] + found[at + 1:]), False)
            self.assertIs(certificate_holds(whole, call[0], sheets, found[:at] + found[at:at + 1] + found[at:]), False)
