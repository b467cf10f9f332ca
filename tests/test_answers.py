"""The answers of systems of settled bodies, against the runs and the nested fixed points of the document."""

import random
import unittest

from roundcalls.answers import Answers
from roundcalls.falling import do_fall, falling_numbers
from roundcalls.games import believed, decided
from roundcalls.gathering import gathered
from roundcalls.making import made_rows
from roundcalls.measuring import priced
from roundcalls.sheets import least_sheet, rooted
from tests.examples import LONG, ONES, PROGRAM, SHORT, TURNS
from tests.programoracle import came_to, truth

VOID, ONE, TWO = (("void", ()),), (("one", ()),), (("two", ()),)
YES, NO = ("yes",), ("no",)


def call(number):
    return "call", number


def winners(system, ranks):
    """The nested fixed points of the ranks: even ones are greatest, odd ones least, the least rank outermost."""
    levels = sorted(set(ranks))
    numbers = range(len(system))

    def solve(at, sets):
        if at == len(levels):
            true = {(number,): number in sets[ranks[number]] for number in numbers}
            return {number for number in numbers if truth(system[number], true)}
        current = set(numbers) if levels[at] % 2 == 0 else set()
        while True:
            found = solve(at + 1, {**sets, levels[at]: current})
            if found == current:
                return found
            current = found

    found = solve(0, {})
    return [number in found for number in numbers]


def stayed(system, lowest):
    """What the runs of a system stay at."""
    run = {(number,): lowest for number in range(len(system))}
    while True:
        following = {(number,): came_to(body, run) for number, body in enumerate(system)}
        if following == run:
            return list(run.values())
        run = following


def random_body(chance, size, depth, words, constants):
    roll = chance.random()
    if depth and roll < 0.5:
        word = chance.choice(words)
        sides = [random_body(chance, size, depth - 1, words, constants) for _ in range(1 if word == "plus" else 2)]
        return (word, chance.choice([0, 0, 1, 7, 99]), *sides) if word == "plus" else (word, *sides)
    return call(chance.randrange(size)) if roll < 0.9 else chance.choice(constants)


class SystemsTest(unittest.TestCase):
    def systems(self, many, words, constants, seed):
        chance = random.Random(seed)
        for _ in range(many):
            size = chance.randint(1, 8)
            yield [random_body(chance, size, chance.randint(0, 3), words, constants) for _ in range(size)], chance

    def test_tests(self):
        for system, chance in self.systems(1500, ["and", "or"], [YES, NO], 10):
            most = chance.choice([1, 3, 9])
            ranks = [chance.randint(0, most) for _ in system]
            self.assertEqual(believed(system, ranks), winners(system, ranks), (system, ranks))

    def test_plans(self):
        chance = random.Random(13)
        for at in range(400):
            size = chance.randint(1, 60)
            depth, most = chance.randint(0, 4), chance.choice([1, 3, 9])
            system = [random_body(chance, size, depth, ["and", "or"], [YES, NO]) for _ in range(size)]
            ranks = [chance.randint(0, most) for _ in system]
            winners, plans = decided(system, ranks)
            for answer in (True, False):
                # The plans and numbers show who wins, whoever found them.
                won = {call: plans[call] for call in range(size) if winners[call] is answer}
                numbers = falling_numbers(won, ranks, answer)
                for mine, used in won.items():
                    self.assertLessEqual(set(used), set(won))
                    true = {(other,): (other in used) == answer for other in range(size)}
                    self.assertIs(truth(system[mine], true), answer)
                    for other in used:
                        self.assertTrue(do_fall(numbers[mine], numbers[other], ranks[mine], answer))

    def test_gatherers(self):
        constants = [("tags", ()), ("tags", ("a",)), ("tags", ("b", "c")), ("tags", ("void",))]
        for system, _ in self.systems(800, ["union"], constants, 11):
            self.assertEqual(gathered(system), stayed(system, ()), system)

    def test_measures(self):
        constants = [("never",), ("number", 0), ("number", 1), ("number", 250)]
        for system, _ in self.systems(1500, ["plus", "least", "most"], constants, 12):
            self.assertEqual(priced(system), stayed(system, None), system)

    def test_loops_of_many_calls(self):
        for size in (1, 2, 399, 400):
            ring = [call((number + 1) % size) for number in range(size)]
            for rank in range(10):
                ranks = [9] * (size - 1) + [rank]
                self.assertEqual(believed(ring, ranks), [rank % 2 == 0] * size)
            self.assertEqual(gathered(ring[:-1] + [("union", ("tags", ("a",)), ring[-1])]), [("a",)] * size)
            self.assertEqual(priced(ring), [None] * size)
            steps = [("plus", 99, body) for body in ring[:-1]] + [("least", ring[-1], ("number", 5))]
            self.assertEqual(priced(steps), [99 * (size - 1 - number) + 5 for number in range(size)])

    def test_ladders(self):
        # Each step of the ladder is lost only when the one below it is.
        size = 200
        system = [call(1), ("or", call(1), NO)]
        for number in range(2, size, 2):
            system += [call(number + 1), ("or", call(number + 1), call(number - 2))]
        self.assertEqual(believed(system, [0, 1] * (size // 2)), [False] * size)
        self.assertEqual(believed(system, [1, 0] * (size // 2)), [True] * size)


class MadeRowsTest(unittest.TestCase):
    def check(self, system, values):
        rows, roots = made_rows(system)
        self.assertEqual([rooted(rows, root) for root in roots], values)

    def test_values(self):
        self.check([("value", LONG)], [ONES])
        self.check([("value", LONG), ("value", ONES), ("value", TURNS)], [ONES, ONES, TURNS])

    def test_tags(self):
        self.check([("tag", "one", ())], [ONE])
        self.check([("tag", "cons", (("tag", "one", ()), call(0)))], [ONES])
        self.check([("tag", "cons", (("value", ONE), ("tag", "cons", (("tag", "two", ()), call(0)))))], [TURNS])
        self.check(
            [("tag", "cons", (call(2), call(1))), ("tag", "cons", (call(3), call(0))), ("value", ONE), ("value", TWO)],
            [TURNS, least_sheet((("cons", (1, 2)), ("two", ()), ("cons", (3, 0)), ("one", ()))), ONE, TWO],
        )

    def test_calls(self):
        self.check([call(1), call(2), ("value", SHORT)], [SHORT] * 3)
        self.check([call(0)], [VOID])
        self.check([call(1), call(2), call(1)], [VOID] * 3)
        self.check([("tag", "cons", (call(1), call(0))), call(1)], [(("cons", (1, 0)), ("void", ())), VOID])

    def test_same_values_made_in_different_ways(self):
        system = [
            ("tag", "cons", (("tag", "one", ()), call(1))), ("tag", "cons", (call(2), ("value", LONG))), ("value", ONE),
        ]
        self.check(system, [ONES, ONES, ONE])


class AnswersTest(unittest.TestCase):
    def test_the_program_of_the_examples(self):
        answers = Answers(PROGRAM)
        for name, sheet, expected in [
            ("every", ONES, True), ("some", ONES, False), ("items", TURNS, ("one", "two")), ("far", TURNS, 1),
            ("far", ONES, None), ("swap", ONES, (("cons", (1, 0)), ("two", ()))), ("every", TURNS, False),
        ]:
            for _ in range(2):
                self.assertEqual(answers.answer_of((name, (sheet,))), expected)

    def test_needed_bodies_of_answered_calls(self):
        for name in ("swap", "every", "some", "items", "far"):
            answers = Answers(PROGRAM)
            bodies = answers.needed_bodies((name, (TURNS,)))
            answers.answer_of((name, (TURNS,)))
            self.assertEqual(answers.needed_bodies((name, (TURNS,))), bodies)
            self.assertEqual({one: answers.settled_body(one) for one in bodies}, bodies)

    def test_answers_do_not_depend_on_those_before(self):
        turned = least_sheet((("cons", (1, 2)), ("two", ()), ("cons", (3, 0)), ("one", ())))
        calls = [(name, (sheet,)) for name in ("swap", "every", "some", "items", "far")
                 for sheet in (ONES, TURNS, turned, SHORT, VOID, ONE)]
        alone = {one: Answers(PROGRAM).answer_of(one) for one in calls}
        for order in (calls, calls[::-1]):
            answers = Answers(PROGRAM)
            self.assertEqual({one: answers.answer_of(one) for one in order}, alone)
