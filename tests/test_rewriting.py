import copy
import itertools
import unittest

from roundcalls.certificates import certificate, certificate_holds
from roundcalls.checking import check_program
from roundcalls.leading import joined, led_back
from roundcalls.programs import is_program
from roundcalls.programtexts import format_program, parse_program
from roundcalls.rewriting import press_ranks, split_groups
from roundcalls.running import answer
from tests.examples import EVERY_ONE, ONES, PROGRAM, SHORT, SIGN, SOME_TWO, TESTS, TURNS
from tests.randomprograms import Maker
from tests.test_settling import HEAD, VOID, program

USES = {"make": "call", "test": "ask", "gather": "take", "measure": "take"}


def calls_of(body, sort):
    """The names of the functions that are called in a body, conditions and arguments included."""
    found = []
    if isinstance(body, tuple):
        if len(body) == 3 and body[0] == "call" and isinstance(body[2], tuple):
            found.append(body[1])
        for item in body:
            found.extend(calls_of(item, sort))
    return found


def split_by_words(program):
    """The split program, written from point 31."""
    signature, groups = program
    result = []
    for sort, members in groups:
        names = [function[0] for function in members]
        needs = {name: {name} for name in names}
        called = {function[0]: {name for name in calls_of(function[3], sort) if name in names} for function in members}
        for _ in names:
            for name in names:
                needs[name] |= called[name].union(*[needs[other] for other in called[name]])
        knots = []
        for name in names:
            knot = [other for other in names if other in needs[name] and name in needs[other]]
            if knot not in knots:
                knots.append(knot)
        placed = []
        while knots:
            # The knots stand in the order of their first functions.
            knot = next(knot for knot in knots
                        if all(other in knot or other in placed for name in knot for other in needs[name]))
            knots.remove(knot)
            placed.extend(knot)
            functions = [function for function in members if function[0] in knot]
            result.append((sort, tuple(
                (name, params, rank, reworded(body, sort, knot)) for name, params, rank, body in functions
            )))
    return signature, tuple(result)


def reworded(body, sort, own):
    if sort == "make" or not isinstance(body, tuple):
        return body
    if body[:1] == ("call",) and len(body) == 3 and isinstance(body[2], tuple) and body[1] not in own:
        return (USES[sort],) + body[1:]
    if body[:1] == ("if",):
        return "if", body[1], reworded(body[2], sort, own), reworded(body[3], sort, own)
    if body[:1] == ("case",):
        branches = tuple((tag, names, reworded(inner, sort, own)) for tag, names, inner in body[2])
        return "case", body[1], branches, reworded(body[3], sort, own)
    if body[:1] in (("ask",), ("take",)):
        return body
    return tuple(reworded(item, sort, own) for item in body)


def pressed_by_words(program):
    groups = []
    for sort, members in program[1]:
        if sort == "test":
            new, before = {}, None
            for rank in range(10):
                if rank not in [function[2] for function in members]:
                    continue
                if before is None:
                    new[rank] = rank % 2
                else:
                    new[rank] = new[before] if rank % 2 == before % 2 else new[before] + 1
                before = rank
            members = tuple((name, params, new[rank], body) for name, params, rank, body in members)
        groups.append((sort, members))
    return program[0], tuple(groups)


class Rewriting(unittest.TestCase):
    def check_answers(self, old, new, maker, many=2):
        """Check that all answers stay the same, and that there are certificates for them."""
        for sort, members in old[1]:
            for name, params, _, _ in members:
                for _ in range(many):
                    sheets = tuple(maker.sheet(maker.chance.randint(1, 4)) for _ in params)
                    self.assertEqual(repr(answer(new, name, *sheets)), repr(answer(old, name, *sheets)))
                    if sort != "make":
                        found = certificate(new, name, *sheets)
                        self.assertIs(certificate_holds(new, name, sheets, found), True)


class SplitGroupsTest(Rewriting):
    def split(self, text):
        return format_program(split_groups(program(text)))[len(HEAD) + 1:]

    def test_examples(self):
        self.assertIs(split_groups((SIGN, (TESTS,)))[1] == (("test", (EVERY_ONE,)), ("test", (SOME_TWO,))), True)

    def test_the_program_of_the_examples(self):
        expected = PROGRAM[1][:1] + (("test", (EVERY_ONE,)), ("test", (SOME_TWO,))) + PROGRAM[1][2:]
        self.assertEqual(split_groups(PROGRAM), (SIGN, expected))

    def test_random_programs(self):
        for seed in range(250):
            maker = Maker(seed + 200, most_params=1 + seed % 3)
            whole = maker.program(1 + seed % 4, most=4)
            found = split_groups(whole)
            self.assertEqual(found, split_by_words(whole))
            self.assertIs(is_program(found), True)
            self.assertIsNone(check_program(found))
            self.assertEqual(split_groups(found), found)
            self.check_answers(whole, found, maker)

    def test_one_knot(self):
        for text in [
            "test\nf x rank 1 = (call g x)\ng x rank 2 = (or (call h x) (no))\nh x rank 0 = (call f x)",
            "make\nf x = (tag cons (call g x) x)\ng x = (tag cons x (call f x))",
            "gather\nf x = (call f x)", "measure\nf x = (number 1)",
        ]:
            self.assertEqual(self.split(text), text)

    def test_no_two_that_need_one_another(self):
        self.assertEqual(
            self.split("test\nf x rank 1 = (or (call g x) (call h x))\ng x rank 2 = (call g x)\n"
                       "h x rank 3 = (call g x)"),
            "test\ng x rank 2 = (call g x)\ntest\nh x rank 3 = (ask g x)\ntest\nf x rank 1 = (or (ask g x) (ask h x))",
        )
        self.assertEqual(
            self.split("measure\nf x = (plus 1 (call g x))\ng x = (least (call h x) (number 3))\nh x = (never)"),
            "measure\nh x = (never)\nmeasure\ng x = (least (take h x) (number 3))\nmeasure\nf x = (plus 1 (take g x))",
        )
        self.assertEqual(
            self.split("gather\nf x = (none)\ng x = (case x (cons a b) (union (call f a) (call g b)) else (call f x))"),
            "gather\nf x = (none)\n"
            "gather\ng x = (case x (cons a b) (union (take f a) (call g b)) else (take f x))",
        )
        self.assertEqual(
            self.split("make\nf x = (tag cons (tag cons (call g x) (call f x)) x)\ng x = (if (same x x) x (tag one))"),
            "make\ng x = (if (same x x) x (tag one))\nmake\nf x = (tag cons (tag cons (call g x) (call f x)) x)",
        )

    def test_two_knots_of_which_the_later_one_comes_first(self):
        self.assertEqual(
            self.split("gather\na x = (call b x)\nb x = (union (call a x) (call d x))\n"
                       "c x = (call d x)\nd x = (call c x)"),
            "gather\nc x = (call d x)\nd x = (call c x)\ngather\na x = (call b x)\nb x = (union (call a x) (take d x))",
        )
        # Knots that are written into one another.
        self.assertEqual(
            self.split("gather\na x = (call c x)\nb x = (call d x)\nc x = (call a x)\n"
                       "d x = (union (call b x) (call c x))"),
            "gather\na x = (call c x)\nc x = (call a x)\ngather\nb x = (call d x)\nd x = (union (call b x) (take c x))",
        )

    def test_the_earliest_of_those_that_may_come(self):
        self.assertEqual(
            self.split("gather\na x = (call d x)\nb x = (none)\nc x = (none)\nd x = (call b x)"),
            "gather\nb x = (none)\ngather\nc x = (none)\ngather\nd x = (take b x)\ngather\na x = (take d x)",
        )
        self.assertEqual(
            self.split("gather\na x = (call c x)\nb x = (none)\nc x = (none)\nd x = (none)"),
            "gather\nb x = (none)\ngather\nc x = (none)\ngather\na x = (take c x)\ngather\nd x = (none)",
        )
        self.assertEqual(
            self.split("gather\na x = (call d x)\nb x = (call c x)\nc x = (none)\nd x = (none)"),
            "gather\nc x = (none)\ngather\nb x = (take c x)\ngather\nd x = (none)\ngather\na x = (take d x)",
        )

    def test_every_graph_of_three(self):
        for called in itertools.product(range(8), repeat=3):
            lines = []
            for at, mask in enumerate(called):
                body = "(none)"
                for other in range(3):
                    if mask >> other & 1:
                        body = f"(union (call {'abc'[other]} x) {body})"
                lines.append(f"{'abc'[at]} x = {body}")
            whole = program("gather\n" + "\n".join(lines))
            self.assertEqual(split_groups(whole), split_by_words(whole))
            self.assertIsNone(check_program(split_groups(whole)))

    def test_uses_of_earlier_groups_stay(self):
        text = ("test\nk x rank 2 = (yes)\nmake\nm x = (if (ask k x) x (tag one))\n"
                "test\nf x rank 1 = (if (ask k (call m x)) (ask k x) (call g x))\ng x rank 1 = (call f x)")
        self.assertEqual(self.split(text), text)

    def test_names_that_are_words(self):
        whole = parse_program("tags call 1 make 0\nmake\ncall ask = (case ask (call call) (call take call) else ask)\n"
                              "take case = (tag call (call call case))\ntest\nask take rank 3 = (call yes take)\n"
                              "yes call rank 0 = (no)")
        check_program(whole)
        self.assertEqual(format_program(split_groups(whole)).split("\n")[4:], [
            "test", "yes call rank 0 = (no)", "test", "ask take rank 3 = (ask yes take)",
        ])

    def test_results_of_the_package(self):
        wider, name = led_back((SIGN, PROGRAM[1][:2]), "swap", "every")
        wider, made = joined(wider, "swap")
        found = split_groups(wider)
        self.assertIsNone(check_program(found))
        for sheet in (ONES, TURNS, SHORT, VOID):
            self.assertIs(answer(found, name, sheet), answer(wider, name, sheet))
            self.assertEqual(answer(found, made, sheet), answer(wider, "swap", sheet))

    def test_by_name_and_arguments_unchanged(self):
        kept = copy.deepcopy(PROGRAM)
        self.assertEqual(split_groups(program=PROGRAM), split_groups(PROGRAM))
        self.assertEqual(PROGRAM, kept)


class PressRanksTest(Rewriting):
    def test_examples(self):
        fine = ("fine", ("x",), 4, ("yes",))
        self.assertEqual(press_ranks((SIGN, (("test", (fine, ("well", ("x",), 7, ("no",)))),)))[1], (
            ("test", (("fine", ("x",), 0, ("yes",)), ("well", ("x",), 1, ("no",)))),
        ))

    def check_ranks(self, ranks, expected):
        members = tuple((f"f{chr(97 + at)}", ("x",), rank, ("yes",)) for at, rank in enumerate(ranks))
        found = press_ranks((SIGN, (("test", members),)))
        self.assertEqual([function[2] for function in found[1][0][1]], expected)

    def test_ranks(self):
        for ranks, expected in [
            ([0], [0]), ([1], [1]), ([8], [0]), ([9], [1]), ([0, 2, 4, 8], [0, 0, 0, 0]), ([9, 7, 1, 3], [1, 1, 1, 1]),
            ([1, 2], [1, 2]), ([2, 1], [2, 1]), ([3, 4, 6, 9], [1, 2, 2, 3]), ([9, 6, 4, 3], [3, 2, 2, 1]),
            (list(range(10)), list(range(10))), ([5, 5, 2, 2], [1, 1, 0, 0]), ([2, 5, 8, 9], [0, 1, 2, 3]),
            ([1, 3, 4, 7, 7, 9, 8], [1, 1, 2, 3, 3, 5, 4]),
        ]:
            self.check_ranks(ranks, expected)

    def test_group_by_group(self):
        whole = program("test\na x rank 5 = (yes)\nmake\nm x = x\ntest\nb x rank 5 = (yes)\nc x rank 2 = (yes)")
        self.assertEqual(format_program(press_ranks(whole)).split("\n")[1:], [
            "test", "a x rank 1 = (yes)", "make", "m x = x", "test", "b x rank 1 = (yes)", "c x rank 0 = (yes)",
        ])

    def test_random_programs(self):
        for seed in range(200):
            maker = Maker(seed + 900)
            whole = maker.program(1 + seed % 3, ("test", "test", "test", "make", "measure"), most=4)
            found = press_ranks(whole)
            self.assertEqual(found, pressed_by_words(whole))
            self.assertIsNone(check_program(found))
            self.assertEqual(press_ranks(found), found)
            self.check_answers(whole, found, maker)

    def test_other_programs_stay(self):
        for sort in ("make", "gather", "measure"):
            whole = Maker(5).program(3, (sort,))
            self.assertEqual(press_ranks(whole), whole)

    def test_by_name_and_arguments_unchanged(self):
        kept = copy.deepcopy(PROGRAM)
        self.assertEqual(press_ranks(program=PROGRAM), press_ranks(PROGRAM))
        self.assertEqual(PROGRAM, kept)
