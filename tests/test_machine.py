import copy
import random
import unittest

from roundcalls.errors import NotFinished, NotPending, UnknownFunction, WrongArguments
from roundcalls.machine import Machine
from roundcalls.running import answer
from roundcalls.settling import needed_calls, settle
from roundcalls.sheets import least_sheet
from tests import oracle
from tests.examples import ANYTHING, LONG, ONES, PROGRAM, SHORT, TURNS
from tests.programoracle import Run, calls_in
from tests.randomprograms import Maker
from tests.test_settling import END, ONE, VOID, ZIPPED, program, ring

REST = (("cons", (1, 2)), ("two", ()), ("cons", (3, 0)), ("one", ()))


def random_machines(seeds, most_params=4):
    for seed in seeds:
        maker = Maker(seed, most_params=1 + seed % most_params)
        whole = maker.program((1, 2, None)[seed % 3])
        for name, params in [(function[0], function[1]) for _, group in whole[1] for function in group]:
            sheets = tuple(maker.sheet(maker.chance.randint(1, 5)) for _ in params)
            yield maker.chance, whole, (name, tuple(least_sheet(sheet) for sheet in sheets)), sheets


class Machines(unittest.TestCase):
    def check_not_finished(self, machine):
        with self.assertRaises(NotFinished) as caught:
            machine.answer
        self.assertEqual(vars(caught.exception), {})

    def check_not_pending(self, machine, thing):
        pending = machine.pending
        with self.assertRaises(NotPending) as caught:
            machine.expand(thing)
        self.assertEqual(repr(caught.exception.call), repr(thing))
        self.assertEqual(machine.pending, pending)
        if pending:
            self.check_not_finished(machine)

    def expand_all(self, machine, run, chance, pick):
        """Expand pending calls in some order, with all that must be so on the way."""
        met, done = set(machine.pending), set()
        while machine.pending:
            self.check_not_finished(machine)
            self.assertEqual(machine.pending, tuple(sorted(met - done)))
            call = pick(chance, machine.pending)
            body = machine.expand(call)
            self.assertEqual(repr(body), repr(run.settle(call)))
            done.add(call)
            met |= set(calls_in(body))
            self.assertEqual(machine.pending, tuple(sorted(met - done)))
            self.check_not_pending(machine, call)
        return done


class MachineTest(Machines):
    def test_examples(self):
        machine = Machine(PROGRAM, "items", ONES)
        settled = machine.expand(machine.pending[0])
        self.assertEqual([settled, machine.pending, machine.answer], [
            ("union", ("tags", ("one",)), ("call", "items", ((("cons", (1, 0)), ("one", ())),))), (), ("one",),
        ])

    def test_at_first(self):
        for name in ("swap", "every", "some", "items", "far"):
            machine = Machine(PROGRAM, name, LONG)
            self.assertEqual(machine.pending, ((name, (ONES,)),))
            self.check_not_finished(machine)
            self.assertIn("pending", vars(machine))

    def test_orders_of_expansion(self):
        picks = [
            lambda chance, pending: pending[0], lambda chance, pending: pending[-1],
            lambda chance, pending: chance.choice(pending),
        ]
        for chance, whole, call, sheets in random_machines(range(150)):
            run = Run(whole)
            for pick in picks:
                machine = Machine(whole, call[0], *sheets)
                done = self.expand_all(machine, run, chance, pick)
                self.assertEqual(tuple(sorted(done)), needed_calls(whole, call))
                self.assertEqual(repr(machine.answer), repr(run.answer(call)))
                self.assertEqual(repr(machine.answer), repr(machine.answer))

    def test_steps(self):
        for _, whole, call, sheets in random_machines(range(200, 300)):
            machine = Machine(whole, call[0], *sheets)
            steps = machine.steps()
            self.assertIs(iter(steps), steps)
            found = []
            for least in iter(lambda: machine.pending[0] if machine.pending else None, None):
                found.append(next(steps))
                self.assertEqual(found[-1], (least, settle(whole, least)))
            self.assertEqual(list(steps), [])
            self.assertEqual(tuple(sorted(step[0] for step in found)), needed_calls(whole, call))
            self.assertEqual(machine.answer, answer(whole, call[0], *sheets))

    def test_steps_with_calls_expanded_in_between(self):
        for chance, whole, call, sheets in random_machines(range(400, 500)):
            machine = Machine(whole, call[0], *sheets)
            steps = [machine.steps(), machine.steps()]
            expanded = []
            while machine.pending:
                if chance.random() < 0.5:
                    least = machine.pending[0]
                    self.assertEqual(next(chance.choice(steps))[0], least)
                    expanded.append(least)
                else:
                    expanded.append(chance.choice(machine.pending))
                    machine.expand(expanded[-1])
            self.assertEqual([list(one) for one in steps], [[], []])
            self.assertEqual(tuple(sorted(expanded)), needed_calls(whole, call))
            self.assertEqual(machine.answer, answer(whole, call[0], *sheets))

    def test_steps_not_asked_for_expand_nothing(self):
        machine = Machine(PROGRAM, "items", TURNS)
        steps = machine.steps()
        self.assertEqual(machine.pending, (("items", (TURNS,)),))
        self.assertEqual(next(steps)[0], ("items", (TURNS,)))
        self.assertEqual(machine.pending, (("items", (REST,)),))
        machine.expand(("items", (REST,)))
        self.assertEqual(machine.pending, ())
        self.assertEqual(machine.answer, ("one", "two"))
        self.assertEqual(list(steps), [])
        self.assertEqual(list(machine.steps()), [])

    def test_answers_of_all_kinds(self):
        for name, sheet, expected in [
            ("every", ONES, True), ("some", ONES, False), ("far", ONES, None), ("far", SHORT, 0), ("items", VOID, ()),
            ("swap", END, END),
        ]:
            machine = Machine(PROGRAM, name, sheet)
            for _ in machine.steps():
                pass
            self.assertEqual(repr(machine.answer), repr(expected))

    def test_both_sides_become_pending(self):
        whole = program("test\nf x rank 0 = (or (yes) (and (call h x) (call g x)))\ng x rank 0 = (yes)\n"
                        "h x rank 0 = (call g x)")
        machine = Machine(whole, "f", ONE)
        machine.expand(("f", (ONE,)))
        self.assertEqual(machine.pending, (("g", (ONE,)), ("h", (ONE,))))
        machine.expand(("g", (ONE,)))
        self.assertEqual(machine.pending, (("h", (ONE,)),))
        machine.expand(("h", (ONE,)))
        self.assertEqual((machine.pending, machine.answer), ((), True))

    def test_machines_do_not_share_anything(self):
        one, other = Machine(PROGRAM, "items", TURNS), Machine(PROGRAM, "items", TURNS)
        one.expand(one.pending[0])
        self.assertEqual(other.pending, (("items", (TURNS,)),))
        other.expand(other.pending[0])
        self.assertEqual(one.pending, other.pending)

    def test_four_hundred_calls(self):
        whole = program(ZIPPED)
        chance = random.Random(3)
        machine = Machine(whole, "zip", ring(19, 19), ring(21, 21))
        count = 0
        while machine.pending:
            machine.expand(chance.choice(machine.pending))
            count += 1
        self.assertEqual(count, 399)
        self.assertEqual(machine.answer, answer(whole, "zip", ring(19, 19), ring(21, 21)))
        self.assertIs(list(Machine(whole, "t", ring(5, 5), ring(4, 2)).steps())[0][1] in [("yes",), ("no",)], True)


class ErrorsTest(Machines):
    def test_not_pending(self):
        for name in ("swap", "every", "some", "items", "far"):
            machine = Machine(PROGRAM, name, TURNS)
            call = (name, (TURNS,))
            things = ANYTHING + [
                (name, (REST,)), (name, (LONG,)), [name, (TURNS,)], (name, [TURNS]), (name, (list(TURNS),)),
                (name, TURNS), (name, (TURNS, TURNS)), (name,), call + ((),), (call,), ("swa", (TURNS,)), (name, ()),
                (name, ((("cons", (True, 2)), ("one", ()), ("cons", (3, False)), ("two", ())),)), ([name], (TURNS,)),
                (name, ((("cons", (1, 2)), ("one", ()), ("cons", (3, False)), ("two", ())),)), (None, (TURNS,)),
                (name, ((("cons", [1, 2]), ("one", ()), ("cons", (3, 0)), ("two", ())),)), name, {name: TURNS},
            ] + [(name, (other,)) for other in oracle.rewritings(TURNS)]
            for thing in things:
                self.check_not_pending(machine, thing)
            machine.expand(call)
            for thing in things + [call]:
                if thing not in machine.pending:
                    self.check_not_pending(machine, thing)
            for _ in machine.steps():
                pass
            for thing in things + [call]:
                self.check_not_pending(machine, thing)

    def test_expanded_calls_are_pending_no_more(self):
        machine = Machine(PROGRAM, "every", ONES)
        machine.expand(("every", (ONES,)))
        self.check_not_pending(machine, ("every", (ONES,)))
        self.assertIs(machine.answer, True)

    def test_no_call(self):
        for name in ["swaps", "", "x", "Far"] + ANYTHING:
            for sheets in [(), (ONES,), (ONES, ONES)]:
                with self.assertRaises(UnknownFunction) as caught:
                    Machine(PROGRAM, name, *sheets)
                self.assertEqual(repr(caught.exception.name), repr(name))
        for sheets in [(), (ONES, ONES), (ONES,) * 4]:
            with self.assertRaises(WrongArguments) as caught:
                Machine(PROGRAM, "far", *sheets)
            self.assertEqual(caught.exception.count, len(sheets))

    def test_by_name(self):
        with self.assertRaises(WrongArguments):
            Machine(name="far", program=PROGRAM)
        with self.assertRaises(UnknownFunction):
            Machine(program=PROGRAM, name="nope")
        machine = Machine(PROGRAM, "far", SHORT)
        self.assertEqual(machine.expand(call=("far", (SHORT,))), ("number", 0))
        with self.assertRaises(NotPending):
            machine.expand(call=None)

    def test_methods_stand_in_the_class(self):
        for method in ("steps", "expand", "answer"):
            self.assertIn(method, vars(Machine))

    def test_arguments_unchanged(self):
        kept = copy.deepcopy((PROGRAM, LONG))
        machine = Machine(PROGRAM, "swap", LONG)
        self.assertEqual(list(machine.steps()), list(Machine(PROGRAM, "swap", LONG).steps()))
        self.assertEqual((PROGRAM, LONG), kept)
