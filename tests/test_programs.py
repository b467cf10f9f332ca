import copy
import random
import unittest

from roundcalls.forms import SLOTS, WORDS, parts_inside
from roundcalls.programs import is_program
from tests.examples import ANYTHING, PROGRAM, SIGN
from tests.formoracle import has_form
from tests.randomprograms import Maker, item_at, places, with_item

X = ("part", "x")
YES = ("yes",)


def program(sort, body, rank=0):
    return SIGN, ((sort, (("f", ("x",), rank, body),)),)


BODIES = {
    "make": [
        X, ("tag", "one", ()), ("tag", "cons", (X, ("tag", "void", ()))), ("call", "f", ()), ("call", "g", (X, X)),
        ("case", "x", (), X), ("case", "x", (("cons", ("a", "b"), X), ("end", (), X)), ("call", "f", (X,))),
        ("if", ("ask", "t", (X,)), X, X), ("if", ("same", X, ("call", "f", (X,))), X, X),
        ("if", ("is", X, "void"), X, ("if", ("not", ("is", X, "one")), X, X)),
        ("if", ("both", ("ask", "t", ()), ("either", ("is", X, "one"), ("same", X, X))), X, X),
    ],
    "test": [
        YES, ("no",), ("and", YES, ("no",)), ("or", YES, YES), ("call", "f", (X,)), ("ask", "f", ()),
        ("case", "x", (("cons", (), YES),), ("no",)), ("if", ("is", X, "one"), YES, ("or", YES, YES)),
    ],
    "gather": [
        ("none",), ("one", "one"), ("one", "void"), ("root", "x"), ("union", ("none",), ("root", "y")),
        ("call", "f", (X,)), ("take", "g", (X, ("tag", "one", ()))), ("case", "x", (), ("none",)),
        ("if", ("is", X, "one"), ("none",), ("none",)),
    ],
    "measure": [
        ("never",), ("number", 0), ("number", 99), ("call", "f", (X,)), ("plus", 0, ("never",)),
        ("plus", 99, ("number", 1)),
        ("least", ("never",), ("number", 1)), ("most", ("never",), ("call", "f", (X,))), ("take", "g", ()),
        ("case", "x", (), ("never",)), ("if", ("is", X, "one"), ("never",), ("never",)),
    ],
}


class IsProgramTest(unittest.TestCase):
    def test_examples(self):
        self.assertEqual([is_program(PROGRAM), is_program(PROGRAM[:1])], [True, False])

    def test_bodies_of_each_sort(self):
        for sort in BODIES:
            for body in BODIES[sort]:
                self.assertIs(is_program(program(sort, body)), True, body)

    def test_bodies_of_other_sorts(self):
        for sort in BODIES:
            words = {body[0] for body in BODIES[sort]}
            for other in BODIES:
                for body in BODIES[other]:
                    self.assertIs(is_program(program(sort, body)), has_form(program(sort, body)), (sort, body))
                    if body[0] not in words:
                        self.assertIs(is_program(program(sort, body)), False, (sort, body))

    def test_words_of_other_kinds(self):
        for sort in BODIES:
            last = BODIES[sort][0]
            for wrong in [("same", X, X), ("is", X, "one"), ("not", ("is", X, "one")), ("part",), ("yes", "yes")]:
                self.assertIs(is_program(program(sort, wrong)), False)
                self.assertIs(is_program(program(sort, ("case", "x", (("one", (), wrong),), last))), False)
            for wrong in [
                X, ("call", "f", (X,)), YES, ("no",), ("tag", "one", ()), ("take", "f", (X,)), ("and", YES, YES),
            ]:
                self.assertIs(is_program(program(sort, ("if", wrong, last, last))), False, wrong)

    def test_every_place_of_an_example(self):
        wrong = [
            None, True, False, 0, 1, -1, 9, 10, 99, 100, 10 ** 39, "", "x", "void", "A", "abcdefghi", "a b", (), ("x",),
            [], {}, {"x": 1}, ["x"], YES, ("no",), ("none",), ("never",), X, ("tag", "one", ()), ("is", X, "one"),
        ]
        for path in places(PROGRAM):
            item = item_at(PROGRAM, path)
            changes = list(wrong)
            if isinstance(item, tuple):
                changes += [list(item), dict.fromkeys(item), item[1:], item[:-1], item + item, item + (None,)]
                changes.append(item[::-1])
            for other in changes:
                thing = with_item(PROGRAM, path, other)
                self.assertIs(is_program(thing), has_form(thing), (path, other))

    def test_parts_exchanged(self):
        chance = random.Random(7)
        for seed in range(40):
            whole = Maker(seed).program()
            self.assertIs(is_program(whole), True)
            found = list(places(whole))
            for _ in range(60):
                thing = with_item(whole, chance.choice(found), item_at(whole, chance.choice(found)))
                self.assertIs(is_program(thing), has_form(thing), thing)

    def test_signatures_and_groups(self):
        groups = program("test", YES)[1]
        for signature in [(), (("a", 0),), SIGN, tuple((letter, 3) for letter in "abcdefghijklmnopqrstuvwxyz")]:
            self.assertIs(is_program((signature, groups)), True)
        for signature in [None, [], (("b", 0), ("a", 0)), (("a", 4),), (("void", 0),), (("a", True),), (["a", 0],)]:
            self.assertIs(is_program((signature, groups)), False, signature)
        for wrong in [(), None, list(groups), [groups], groups[0], (list(groups[0]),), (("test", ()),), ((),), (None,)]:
            self.assertIs(is_program((SIGN, wrong)), False, wrong)
        for sort in ["tests", "Test", "", None, 0, True, ("test",), ["test"], "case"]:
            self.assertIs(is_program((SIGN, ((sort, groups[0][1]),))), False, sort)
        self.assertIs(is_program((SIGN, groups, ())), False)

    def test_ranks(self):
        for rank in range(10):
            self.assertIs(is_program(program("test", YES, rank)), True)
            for sort in ("make", "gather", "measure"):
                self.assertIs(is_program(program(sort, BODIES[sort][0], rank)), rank == 0)
        for rank in [-1, 10, 100, 10 ** 39, True, False, None, "0", (0,), [0]]:
            for sort in BODIES:
                self.assertIs(is_program(program(sort, BODIES[sort][0], rank)), False, rank)

    def test_numbers(self):
        for number in range(100):
            self.assertIs(is_program(program("measure", ("number", number))), True)
            self.assertIs(is_program(program("measure", ("plus", number, ("never",)))), True)
        for number in [-1, 100, 10 ** 39, True, False, None, "1", (), (1,), [1]]:
            self.assertIs(is_program(program("measure", ("number", number))), False, number)
            self.assertIs(is_program(program("measure", ("plus", number, ("never",)))), False, number)

    def test_parameters(self):
        for params, expected in [
            (("x",), True), (("x", "y", "z", "u"), True), ((), False), (("x", "y", "z", "u", "v"), False),
            (("x", "x"), False), (["x"], False), ("x", False), (("X",), False), (("",), False), ((None,), False),
            ((("x",),), False), (("void", "case"), True), (("f",), True), ((["x"],), False), ({"x": 1}, False),
        ]:
            thing = (SIGN, (("test", (("f", params, 0, YES),)),))
            self.assertIs(is_program(thing), expected, params)

    def test_names_of_functions(self):
        one, two = ("f", ("x",), 0, YES), ("g", ("x",), 0, YES)
        self.assertIs(is_program((SIGN, (("test", (one, two)),))), True)
        self.assertIs(is_program((SIGN, (("test", (one, one)),))), False)
        self.assertIs(is_program((SIGN, (("test", (one,)), ("test", (two,))))), True)
        self.assertIs(is_program((SIGN, (("test", (one,)), ("test", (one,))))), False)
        self.assertIs(is_program((SIGN, (("test", (one,)), ("gather", (("f", ("x",), 0, ("none",)),))))), False)

    def test_branches(self):
        for branches, expected in [
            ((), True), ((("a", (), YES),), True), ((("a", (), YES), ("b", (), YES)), True),
            ((("b", (), YES), ("a", (), YES)), False), ((("a", (), YES), ("a", ("x",), YES)), False),
            ((("void", (), YES),), True), ((("a", tuple("abcdefgh"), YES),), True), ((("a", ("b", "b"), YES),), False),
            ((("a", ["b"], YES),), False), ((("a", (), YES, YES),), False), ((("a", ()),), False),
            (([ "a", (), YES],), False), ([("a", (), YES)], False), ((("a", "b", YES),), False), (None, False),
            ((("A", (), YES),), False), (((None, (), YES),), False), ((("a", (), ("none",)),), False),
        ]:
            self.assertIs(is_program(program("test", ("case", "x", branches, YES))), expected, branches)

    def test_what_the_checks_say_does_not_count(self):
        for sort, body in [
            ("make", ("part", "unknown")), ("make", ("tag", "unknown", (X, X, X, X))), ("make", ("call", "later", ())),
            ("test", ("ask", "f", (X,))), ("test", ("call", "f", (X, X, ("tag", "one", ())))),
            ("gather", ("one", "unknown")), ("gather", ("root", "unknown")), ("gather", ("take", "f", ())),
            ("measure", ("call", "f", (("call", "f", (X,)),))), ("test", ("case", "y", (("u", (), YES),), YES)),
        ]:
            self.assertIs(is_program(program(sort, body)), True, body)

    def test_beyond_the_limits(self):
        body, condition, term = ("none",), ("is", X, "one"), X
        for _ in range(300):
            body, condition, term = ("union", ("none",), body), ("not", condition), ("tag", "cons", (term,))
        self.assertIs(is_program(program("gather", body)), True)
        self.assertIs(is_program(program("gather", ("if", condition, body, body))), True)
        self.assertIs(is_program(program("make", term)), True)
        self.assertIs(is_program(program("make", ("if", ("same", term, X), term, ("yes",)))), False)
        names = [a + b for a in "abcdefgh" for b in "abcdefgh"]
        functions = [(name, ("x",), 0, YES) for name in names]
        self.assertIs(is_program((SIGN, tuple(("test", (function,)) for function in functions))), True)
        self.assertIs(is_program((SIGN, (("test", tuple(functions)),))), True)
        self.assertIs(is_program((SIGN, (("test", tuple(functions + functions[-1:])),))), False)
        wide = ("case", "x", tuple((name, tuple(names), YES) for name in names), YES)
        self.assertIs(is_program(program("test", wide)), True)
        self.assertIs(is_program(program("make", ("call", "f", (X,) * 2000))), True)

    def test_any_value(self):
        for thing in ANYTHING:
            kept = copy.deepcopy(thing)
            self.assertIs(is_program(thing), False)
            self.assertIs(is_program((SIGN, thing)), False)
            self.assertIs(is_program((SIGN, (thing,))), False)
            self.assertIs(is_program((SIGN, (("test", thing),))), False)
            self.assertIs(is_program((SIGN, (("test", (thing,)),))), False)
            self.assertIs(is_program(program("test", thing)), False)
            self.assertIs(is_program(program("make", ("tag", "a", (X, thing)))), False)
            self.assertIs(is_program(program("make", ("if", thing, X, X))), False)
            self.assertEqual(thing, kept)

    def test_parts_inside(self):
        met = set()
        for sort in BODIES:
            waiting = [(sort, (), body) for body in BODIES[sort]]
            while waiting:
                kind, _, part = waiting.pop()
                inside = parts_inside(kind, part)
                met.add((kind, part[0]))
                for inner, steps, item in inside:
                    self.assertEqual(item_at(part, steps), item)
                    self.assertIn(item[0], WORDS[inner])
                waiting.extend(inside)
        self.assertEqual(met, {(kind, word) for kind in WORDS for word in WORDS[kind]})
        self.assertEqual({word for _, word in met}, set(SLOTS))

    def test_by_name(self):
        self.assertIs(is_program(thing=PROGRAM), True)
