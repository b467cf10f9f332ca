import copy
import random
import unittest

from roundcalls.certificates import certificate, certificate_holds
from roundcalls.checking import check_program
from roundcalls.claims import claim_holds
from roundcalls.errors import RoundCallsError
from roundcalls.hidden import told_back, untold_holds
from roundcalls.programs import is_program
from roundcalls.running import answer
from roundcalls.sameness import are_same, pairs_hold, parting_path, same_pairs
from roundcalls.sheets import is_sheet, least_sheet
from roundcalls.signatures import is_signature
from roundcalls.tops import is_top, top
from roundcalls.wishing import no_wish_holds, wish
from tests import oracle
from tests.changes import changed
from tests.examples import ANYTHING, LONG, ONES, PROGRAM, SHORT, SIGN, TESTS, TURNS
from tests.randomprograms import Maker
from tests.test_settling import END, HALF, VOID, program
from tests.test_wishing import NO_WISHES, WISHES, random_wishes

TOP = ("cons", (("one", ()), ("cons", (("two", ()), ("cons", (None, None))))))
PARTING = ((), (0,), (1, 0))
TWISTED = (("cons", (True, False)), ("one", ()))
# It passes no check: it has an unknown name.
FAULTY = (SIGN, (("test", (("every", ("x",), 0, ("call", "every", (("part", "y"),))),)),))


def holds(thing):
    """Whether a value is a claim that holds, by the functions for what it says."""
    if not isinstance(thing, tuple) or not thing or not isinstance(thing[0], str):
        return False
    sizes = {"same": 5, "parted": 5, "answer": 5, "certified": 5, "no value": 5, "no wish": 4}
    if sizes.get(thing[0]) != len(thing):
        return False
    try:
        return {"same": same, "parted": parted, "answer": answered, "certified": certified, "no value": no_value,
                "no wish": no_wish}[thing[0]](*thing[1:])
    except (RoundCallsError, KeyError):
        return False


def same(signature, sheet, other, pairs):
    valid = is_signature(signature) and is_sheet(signature, sheet) and is_sheet(signature, other)
    return valid and pairs_hold(sheet, other, pairs)


def parted(signature, sheet, other, path):
    valid = is_signature(signature) and is_sheet(signature, sheet) and is_sheet(signature, other)
    return valid and path is not None and repr(parting_path(sheet, other)) == repr(path)


def is_run(program, arguments):
    if not is_program(program):
        return False
    check_program(program)
    return isinstance(arguments, tuple) and all(is_sheet(program[0], sheet) for sheet in arguments)


def answered(program, name, arguments, told):
    if not is_run(program, arguments):
        return False
    found = answer(program, name, *arguments)
    if is_sheet(program[0], found):
        return is_sheet(program[0], told) and are_same(told, found)
    return repr(found) == repr(told)


def certified(program, name, arguments, thing):
    return is_run(program, arguments) and certificate_holds(program, name, arguments, thing)


def no_value(signature, found, n, paths):
    if not is_signature(signature) or type(n) is not int or n not in (1, 2, 3, 4):
        return False
    return is_top(signature, 2 * n - 2, found) and untold_holds(signature, n, found, paths)


def no_wish(program, name, rows):
    return is_run(program, ()) and no_wish_holds(program, name, rows)


GOOD = [
    ("same", SIGN, ONES, LONG, same_pairs(ONES, LONG)), ("same", SIGN, TURNS, TURNS, same_pairs(TURNS, TURNS)),
    ("parted", SIGN, ONES, TURNS, (1, 0)), ("parted", SIGN, ONES, VOID, ()), ("parted", SIGN, LONG, SHORT, (0,)),
    ("answer", PROGRAM, "far", (TURNS,), 1), ("answer", PROGRAM, "far", (ONES,), None),
    ("answer", PROGRAM, "far", (SHORT,), 0), ("answer", PROGRAM, "every", (ONES,), True),
    ("answer", PROGRAM, "some", (ONES,), False), ("answer", PROGRAM, "items", (TURNS,), ("one", "two")),
    ("answer", PROGRAM, "items", (VOID,), ()), ("answer", PROGRAM, "swap", (LONG,), (("cons", (1, 0)), ("two", ()))),
    ("certified", PROGRAM, "every", (ONES,), certificate(PROGRAM, "every", ONES)),
    ("certified", PROGRAM, "some", (TURNS,), certificate(PROGRAM, "some", TURNS)),
    ("certified", PROGRAM, "items", (TURNS,), certificate(PROGRAM, "items", TURNS)),
    ("certified", PROGRAM, "far", (LONG,), certificate(PROGRAM, "far", ONES)),
    ("no value", SIGN, TOP, 2, PARTING), ("no wish", NO_WISHES, "list", wish(NO_WISHES, "list")[1]),
]


class ClaimsTest(unittest.TestCase):
    def check(self, thing, expected):
        self.assertIs(claim_holds(thing), expected, thing)
        self.assertIs(holds(thing), expected, thing)

    def test_examples(self):
        self.assertIs(claim_holds(("parted", SIGN, ONES, TURNS, (1, 0))), True)
        self.assertIs(claim_holds(("answer", PROGRAM, "far", (ONES,), 3)), False)

    def test_claims_that_hold(self):
        for thing in GOOD:
            self.check(thing, True)

    def test_same(self):
        for thing in [
            ("same", SIGN, ONES, LONG, ((0, 0),)), ("same", SIGN, ONES, TURNS, same_pairs(ONES, ONES)),
            ("same", SIGN, ONES, LONG, list(same_pairs(ONES, LONG))), ("same", SIGN, ONES, LONG, None),
            ("same", SIGN, TWISTED, ONES, ((0, 0), (1, 1))), ("same", SIGN, ONES, ONES, ((0, 0), (True, 1))),
            ("same", (), ONES, ONES, ((0, 0), (1, 1))), ("same", None, ONES, ONES, ((0, 0), (1, 1))),
            ("same", SIGN[::-1], ONES, ONES, ((0, 0), (1, 1))), ("same", SIGN, (), ONES, ((0, 0), (1, 1))),
            ("same", SIGN, ONES, ONES), ("same", SIGN, ONES, ONES, ((0, 0), (1, 1)), ()), ("same",),
            ("same", (("cons", True),), ONES, ONES, ()), ("same", SIGN, [("one", ())], END, ((0, 0),)),
        ]:
            self.check(thing, False)
        self.check(("same", SIGN, ONES, ONES, ((0, 0), (1, 1))), True)
        for other in oracle.rewritings(TURNS):
            self.check(("same", SIGN, other, TURNS, same_pairs(other, TURNS)), True)

    def test_parted(self):
        for path in [(1,), (0,), (1, 0, 0), (True, 0), (1, False), (True, False), [1, 0], None, "10", (), (1, 1, 1)]:
            self.check(("parted", SIGN, ONES, TURNS, path), False)
        for path in [(), None, (0,), (1, 0)]:
            self.check(("parted", SIGN, ONES, LONG, path), False)
        self.check(("parted", SIGN, LONG, TURNS, (1, 0)), True)
        self.check(("parted", SIGN, TWISTED, TURNS, (1, 0)), False)
        self.check(("parted", SIGN[:2], ONES, TURNS, (1, 0)), False)

    def test_answer(self):
        for name, told in [
            ("far", 0), ("far", True), ("far", None), ("far", "1"), ("far", ()), ("far", (1,)), ("every", 0),
            ("every", None), ("every", ()), ("some", 1), ("some", None), ("items", ["one", "two"]), ("items", ("one",)),
            ("items", ("two", "one")), ("items", None), ("items", ("one", "one", "two")), ("swap", TURNS),
            ("swap", None), ("nope", None), ("", None), (None, None), (["far"], 1), ("Far", 1), ({}, 1),
        ]:
            self.check(("answer", PROGRAM, name, (TURNS,), told), False)
        self.check(("answer", PROGRAM, "far", (SHORT,), False), False)
        self.check(("answer", PROGRAM, "every", (ONES,), 1), False)
        self.check(("answer", PROGRAM, "some", (ONES,), 0), False)
        self.check(("answer", PROGRAM, "far", (ONES,), False), False)
        for arguments in [(), (TURNS, TURNS), [TURNS], TURNS, (TWISTED,), (None,), None, ((),), ("u",)]:
            for name in ("far", "every", "swap", "nope"):
                self.check(("answer", PROGRAM, name, arguments, 1), False)
        swapped = (("cons", (1, 0)), ("two", ()))
        for sheet in oracle.rewritings(swapped):
            self.check(("answer", PROGRAM, "swap", (ONES,), sheet), True)
        self.check(("answer", PROGRAM, "swap", (ONES,), (("cons", (True, 0)), ("two", ()))), False)
        self.check(("answer", PROGRAM, "swap", (ONES,), list(swapped)), False)
        self.check(("answer", PROGRAM, "swap", (ONES,), swapped + (("three", ()),)), False)

    def test_programs(self):
        for whole in [FAULTY, None, (), PROGRAM[:1], list(PROGRAM), (SIGN, ()), (SIGN, list(PROGRAM[1])),
                      (SIGN, (("test", (TESTS[1][0], TESTS[1][0])),)), (SIGN[:1], (TESTS,)), (SIGN, (TESTS, TESTS))]:
            self.check(("answer", whole, "every", (ONES,), True), False)
            self.check(("certified", whole, "every", (ONES,), certificate(PROGRAM, "every", ONES)), False)
            self.check(("no wish", whole, "every", ()), False)
        self.check(("answer", (SIGN, (TESTS,)), "every", (ONES,), True), True)

    def test_certified(self):
        for name in ("every", "some", "items", "far", "swap", "nope", None, []):
            for thing in (certificate(PROGRAM, "every", ONES), certificate(PROGRAM, "far", ONES), None, (), (True, ())):
                for arguments in [(ONES,), (TURNS,), (), (ONES, ONES), [ONES], None, (TWISTED,)]:
                    claim = ("certified", PROGRAM, name, arguments, thing)
                    self.assertIs(claim_holds(claim), holds(claim))

    def test_no_value(self):
        for n in [0, 1, 3, 4, 5, -1, True, None, "2", 10 ** 39, (2,), [2]]:
            self.check(("no value", SIGN, TOP, n, PARTING), False)
        for paths in [PARTING[:2], PARTING[::-1], list(PARTING), None, ((), (0,), (True, 0)), ((), (False,), (1, 0))]:
            self.check(("no value", SIGN, TOP, 2, paths), False)
        self.check(("no value", SIGN[:2], TOP, 2, PARTING), False)
        self.check(("no value", None, TOP, 2, PARTING), False)
        self.check(("no value", SIGN, None, 2, PARTING), False)
        self.check(("no value", SIGN, TOP[:1], 2, PARTING), False)
        self.check(("no value", SIGN, top(TURNS, 1), 2, PARTING), False)
        # With n = 1 the top is the root alone, and some value of one part has it only if it has no fields or loops.
        self.check(("no value", SIGN, ("cons", (None, None)), 1, ((), (0,))), False)
        # Six parts that part from one another, told of a top to depth 8: but n goes to 4 only.
        six = tuple(("cons", (6 if at % 6 else 7, (at + 1) % 6)) for at in range(6)) + (("one", ()), ("two", ()))
        paths = tuple((1,) * steps for steps in range(6))
        self.assertIs(untold_holds(SIGN, 5, top(six, 8), paths), True)
        self.check(("no value", SIGN, top(six, 8), 5, paths), False)
        self.check(("no value", SIGN, None, 0, ((),)), False)
        self.check(("no value", SIGN, top(six, 0), True, ((), (0,))), False)
        chance = random.Random(6)
        for _ in range(200):
            size = chance.randint(1, 6)
            tags = [chance.choice(["cons", "cons", "one", "two"]) for _ in range(size)]
            sheet = tuple((tag, tuple(chance.randrange(size) for _ in range(2 * (tag == "cons")))) for tag in tags)
            n = chance.randint(1, 3)
            found = top(sheet, 2 * n - 2)
            told = told_back(SIGN, n, found)
            self.check(("no value", SIGN, found, n, told[1]), told[0] == "none")

    def test_no_wish(self):
        rows = wish(NO_WISHES, "list")[1]
        for thing in [
            ("no wish", WISHES, "list", rows), ("no wish", NO_WISHES, "unit", rows),
            ("no wish", NO_WISHES, "nope", rows), ("no wish", NO_WISHES, None, rows),
            ("no wish", NO_WISHES, "list", ("none", rows)), ("no wish", NO_WISHES, "list"),
            ("no wish", NO_WISHES, "list", rows, ()), ("no wish", PROGRAM, "every", rows),
            ("no wish", PROGRAM, "far", ()), ("no wish", NO_WISHES, "list", list(rows)),
        ]:
            self.check(thing, False)
        for seed in range(100):
            _, whole = random_wishes(seed)
            for name, _, _, _ in whole[1][0][1]:
                found = wish(whole, name)
                self.check(("no wish", whole, name, found[1]), found[0] == "none")

    def test_random_programs(self):
        for seed in range(120):
            maker = Maker(seed + 300, most_params=3)
            whole = maker.program(None)
            for sort, group in whole[1]:
                for name, params, _, _ in group:
                    sheets = tuple(maker.sheet(maker.chance.randint(1, 4)) for _ in params)
                    told = answer(whole, name, *sheets)
                    self.check(("answer", whole, name, sheets, told), True)
                    if sort != "make":
                        found = certificate(whole, name, *sheets)
                        self.check(("certified", whole, name, sheets, found), True)
                    for _ in range(6):
                        thing = changed(maker.chance, ("answer", whole, name, sheets, told))
                        self.assertIs(claim_holds(thing), holds(thing), thing)

    def test_changed_claims(self):
        chance = random.Random(7)
        held = 0
        for at in range(6000):
            thing = changed(chance, chance.choice(GOOD))
            for _ in range(chance.randrange(2)):
                thing = changed(chance, thing) if isinstance(thing, tuple) else thing
            expected = holds(thing)
            self.assertIs(claim_holds(thing), expected, thing)
            held += expected
        self.assertGreater(held, 300)

    def test_any_value(self):
        for thing in ANYTHING:
            self.check(thing, False)
            for good in GOOD:
                for at in range(len(good)):
                    claim = good[:at] + (thing,) + good[at + 1:]
                    self.assertIs(claim_holds(claim), holds(claim))
                self.check(good + (thing,), False)
            for word in ("same", "parted", "answer", "certified", "no value", "no wish", "wish", ""):
                self.check((word, thing), False)
                self.check((word, thing, thing, thing, thing), False)
                self.check([word, thing, thing, thing], False)

    def test_other_words(self):
        for word in ["", "Same", "sam", "no  value", "no wishes", None, 0, True, (), ["same"], "answer "]:
            for good in GOOD:
                self.check((word,) + good[1:], False)
        for good in GOOD:
            self.check(list(good), False)
            self.check(good[:-1], False)
            self.check(good[1:], False)

    def test_answers_that_are_greater(self):
        whole = program("measure\nf x = (case x (cons a b) (plus 99 (call f b)) else (number 99))")
        chain = tuple(("cons", (at + 1, at + 1)) for at in range(59)) + (("one", ()),)
        self.check(("answer", whole, "f", (chain,), 5940), True)
        self.check(("answer", whole, "f", ((("cons", (1, 1)), ("one", ())),), 198), True)
        self.check(("answer", whole, "f", (HALF,), None), True)
        self.check(("answer", whole, "f", (VOID,), None), True)
        self.assertEqual(least_sheet(chain), chain)

    def test_by_name_and_arguments_unchanged(self):
        self.assertIs(claim_holds(thing=GOOD[0]), True)
        thing = ["same", [SIGN], {"a": [ONES]}]
        kept = copy.deepcopy((thing, GOOD))
        for _ in range(2):
            self.assertIs(claim_holds(thing), False)
            self.assertIs(claim_holds(("same", SIGN, ONES, thing, ())), False)
            self.assertEqual([claim_holds(good) for good in GOOD], [True] * len(GOOD))
        self.assertEqual((thing, GOOD), kept)
