import copy
import random
import unittest

from roundcalls.checking import check_program
from roundcalls.errors import (
    InvalidCommand, NameTaken, NoMaker, RoundCallsError, UnknownFunction, UnknownItem, UnknownName, UnknownTag,
    WrongArguments, WrongCount,
)
from roundcalls.programtexts import format_program
from roundcalls.running import answer
from roundcalls.sameness import parting_path
from roundcalls.sheets import part_count
from roundcalls.valuetexts import format_value
from roundcalls.workspace import Workspace
from tests.examples import ANYTHING, ONES, PROGRAM, SHORT, SIGN, TURNS
from tests.randomprograms import Maker

TEXT = format_program(PROGRAM).replace("\n", " / ")
ALL = (f"program p {TEXT}", "value u cons 1 0; one", "value t cons 1 2; one; cons 3 0; two",
       "value s cons 1 2; two; end")
FAULTY = f"tags {TEXT.split(' / ')[0][5:]} / gather / g x = (root y)"


def state(space):
    """All that can be seen of a workspace."""
    shown = {name: space.run(f"show {name}") for name in space.names}
    programs = []
    for letter in "abcdefghijklmnopqrstuvwxyz":
        try:
            space.run(f"ask {letter} nope")
        except UnknownItem:
            continue
        except UnknownFunction:
            programs.append(letter)
    return space.names, shown, programs


class Spaces(unittest.TestCase):
    def check_error(self, space, line, error, *values):
        """Check that a command raises an error, alone, in a batch and in a new workspace, and changes nothing."""
        before = state(space)
        deeds = [lambda: space.run(line), lambda: space.batch(line), lambda: space.batch("value zzz end", line),
                 lambda: space.batch("value zzz end", "forget zzz", line, "value zzz end")]
        for deed in deeds:
            with self.assertRaises(error) as caught:
                deed()
            self.assertIs(type(caught.exception), error, line)
            self.assertEqual(repr(list(vars(caught.exception).values())), repr(list(values)), line)
            self.assertEqual(state(space), before)


class RunTest(Spaces):
    def test_examples(self):
        space = Workspace(SIGN)
        self.assertEqual([space.run("value u cons 1 0; one"), space.run("parts u"), space.run("same u u")],
                         ["ok", "2", "yes"])
        space = Workspace.of(SIGN, "value u cons 1 0; one")
        with self.assertRaises(InvalidCommand):
            space.run("parts u u")

    def test_values(self):
        space = Workspace.of(SIGN, *ALL)
        self.assertEqual([space.run(f"show {name}") for name in "uts"], [
            "cons 1 0; one", "cons 1 2; one; cons 3 0; two", "cons 1 2; two; end",
        ])
        self.assertEqual([space.run(f"parts {name}") for name in "uts"], ["2", "4", "3"])
        self.assertEqual(space.run("same u t"), "no 1 0")
        self.assertEqual(space.run("same u s"), "no 0")
        self.assertEqual(space.run("value end end"), "ok")
        self.assertEqual(space.run("same end u"), "no")
        self.assertEqual(space.run("same end end"), "yes")
        self.assertEqual(space.run("value void void"), "ok")
        self.assertEqual(space.run("show void"), "void")

    def test_names(self):
        space = Workspace(SIGN)
        self.assertEqual(space.names, ())
        self.assertIn("names", vars(space))
        for line, names in [
            ("value u end", ("u",)), ("value a one", ("a", "u")), (f"program p {TEXT}", ("a", "u")),
            ("value p two", ("a", "p", "u")), ("run r p swap a", ("a", "p", "r", "u")), ("forget a", ("p", "r", "u")),
            ("forget p", ("r", "u")), ("value zz end", ("r", "u", "zz")), ("value z end", ("r", "u", "z", "zz")),
        ]:
            self.assertEqual(space.run(line), "ok")
            self.assertEqual(space.names, names)
        space.batch("forget r", "forget u", "value b end")
        self.assertEqual(space.names, ("b", "z", "zz"))

    def test_ask(self):
        space = Workspace.of(SIGN, *ALL)
        for line, expected in [
            ("ask p every u", "yes"), ("ask p some u", "no"), ("ask p items t", "one two"), ("ask p items u", "one"),
            ("ask p far t", "1"), ("ask p far u", "never"), ("ask p far s", "0"), ("ask p swap u", "cons 1 0; two"),
        ]:
            self.assertEqual(space.run(line), expected)
        space.run("value void void")
        self.assertEqual(space.run("ask p items void"), "none")
        self.assertEqual(space.run("ask p swap void"), "void")

    def test_run(self):
        space = Workspace.of(SIGN, *ALL)
        self.assertEqual(space.run("run v p swap u"), "ok")
        self.assertEqual(space.run("show v"), "cons 1 0; two")
        self.assertEqual(space.run("run w p swap v"), "ok")
        self.assertEqual(space.run("same u w"), "yes")
        self.assertEqual(space.names, ("s", "t", "u", "v", "w"))

    def test_several_values(self):
        space = Workspace.of(SIGN, *ALL[1:])
        space.run("program p tags cons 2 end 0 one 0 two 0 / make / pair x y = (tag cons x y) / test / "
                  "eq a b c d rank 9 = (if (both (same a b) (same c d)) (yes) (no))")
        self.assertEqual(space.run("ask p pair u s"), "cons 1 3; cons 2 1; one; cons 4 5; two; end")
        self.assertEqual(space.run("run q p pair s s"), "ok")
        self.assertEqual(space.run("ask p eq u u t t"), "yes")
        self.assertEqual(space.run("ask p eq u t t t"), "no")
        self.check_error(space, "ask p pair", WrongArguments, 0)
        self.check_error(space, "run x p pair", WrongArguments, 0)
        self.check_error(space, "ask p eq u u u u u", WrongArguments, 5)

    def test_a_value_and_a_program_under_one_name(self):
        space = Workspace.of(SIGN, ALL[0], "value p cons 1 0; one")
        self.assertEqual(space.run("ask p every p"), "yes")
        self.assertEqual(space.run("forget p"), "ok")
        self.check_error(space, "ask p every p", UnknownItem, "p")
        self.check_error(space, f"program p {TEXT}", NameTaken, "p")
        self.assertEqual(space.run("value p end"), "ok")
        self.assertEqual(space.run("ask p every p"), "yes")

    def test_names_that_are_words(self):
        space = Workspace(SIGN)
        words = ["value", "program", "run", "ask", "show", "same", "parts", "forget", "ok", "yes", "tags", "rank"]
        for word in words:
            self.assertEqual(space.run(f"value {word} cons 1 0; one"), "ok")
            self.assertEqual(space.run(f"program {word} {TEXT}"), "ok")
        for word in words:
            self.assertEqual(space.run(f"ask {word} every {word}"), "yes")
            self.assertEqual(space.run(f"show {word}"), "cons 1 0; one")
            self.assertEqual(space.run(f"forget {word}"), "ok")
        self.assertEqual(space.names, ())

    def test_programs_of_one_line_feed_for_each_slash(self):
        space = Workspace(())
        self.assertEqual(space.run("program p tags / test / f x rank 0 = (if (is x void) (yes) (no))"), "ok")
        self.assertEqual(space.run("value v void"), "ok")
        self.assertEqual(space.run("ask p f v"), "yes")

    def test_random_workspaces(self):
        for seed in range(60):
            maker = Maker(seed + 40, most_params=3)
            whole = maker.program()
            check_program(whole)
            space = Workspace(whole[0])
            space.run("program p " + format_program(whole).replace("\n", " / "))
            kept = {}
            functions = [(sort, function) for sort, group in whole[1] for function in group]
            for at in range(40):
                name = chr(97 + maker.chance.randrange(26)) * maker.chance.randint(1, 3)
                if name not in kept:
                    kept[name] = answer((maker.signature, (("make", (("f", ("x",), 0, ("part", "x")),)),)), "f",
                                        maker.sheet(maker.chance.randint(1, 5)))
                    self.assertEqual(space.run(f"value {name} {format_value(kept[name])}"), "ok")
                other = maker.chance.choice(sorted(kept))
                self.assertEqual(space.run(f"show {other}"), format_value(kept[other]))
                self.assertEqual(space.run(f"parts {other}"), str(part_count(kept[other])))
                path = parting_path(kept[name], kept[other])
                self.assertEqual(space.run(f"same {name} {other}"), "yes" if path is None else " ".join(
                    ["no", *map(str, path)]))
                sort, (function, params, _, _) = maker.chance.choice(functions)
                values = [maker.chance.choice(sorted(kept)) for _ in params]
                found = answer(whole, function, *[kept[value] for value in values])
                told = {"make": lambda: format_value(found), "test": lambda: "yes" if found else "no",
                        "gather": lambda: " ".join(found) or "none",
                        "measure": lambda: "never" if found is None else str(found)}[sort]()
                self.assertEqual(space.run(" ".join(["ask", "p", function] + values)), told)
                line = " ".join(["run", "made" + chr(97 + at % 26) * (1 + at // 26), "p", function] + values)
                if sort == "make":
                    self.assertEqual(space.run(line), "ok")
                    kept[line.split()[1]] = found
                else:
                    with self.assertRaises(NoMaker) as caught:
                        space.run(line)
                    self.assertEqual(caught.exception.name, function)
                if maker.chance.random() < 0.2:
                    gone = maker.chance.choice(sorted(kept))
                    del kept[gone]
                    self.assertEqual(space.run(f"forget {gone}"), "ok")
                self.assertEqual(space.names, tuple(sorted(kept)))


class BatchTest(Spaces):
    def test_answers(self):
        space = Workspace(SIGN)
        self.assertEqual(space.batch(), ())
        self.assertEqual(space.batch(*ALL, "parts u", "ask p items t", "forget u"),
                         ("ok",) * 4 + ("2", "one two", "ok"))
        self.assertEqual(space.names, ("s", "t"))

    def test_each_command_sees_those_before(self):
        space = Workspace(SIGN)
        self.assertEqual(space.batch(ALL[0], "value u cons 1 0; one", "run v p swap u", "forget u",
                                     "value u two", "show v", "show u", "same u v"),
                         ("ok",) * 5 + ("cons 1 0; two", "two", "no"))

    def test_a_last_command_that_fails(self):
        space = Workspace.of(SIGN, *ALL)
        before = state(space)
        for last, error in [("value u end", NameTaken), ("", InvalidCommand), (None, InvalidCommand),
                            ("show x", UnknownItem), ("ask p nope u", UnknownFunction), ("ask p far", WrongArguments),
                            ("run x p far u", NoMaker), (f"program q {FAULTY}", UnknownName)]:
            with self.assertRaises(error):
                space.batch("forget t", "value x end", f"program r {TEXT}", "run y r swap x", "forget x", last)
            self.assertEqual(state(space), before)
        self.assertEqual(space.batch("forget t", "value x end")[1], "ok")
        self.assertEqual(space.names, ("s", "u", "x"))

    def test_of(self):
        self.assertEqual(state(Workspace.of(SIGN)), ((), {}, []))
        space = Workspace.of(SIGN, *ALL)
        self.assertIs(type(space), Workspace)
        self.assertEqual(space.names, ("s", "t", "u"))
        for lines, error in [(("value u end", "value u end"), NameTaken), (("show u",), UnknownItem),
                             ((None,), InvalidCommand), (([],), InvalidCommand), (("value u end", ()), InvalidCommand)]:
            with self.assertRaises(error):
                Workspace.of(SIGN, *lines)

    def test_workspaces_do_not_share_anything(self):
        one, other = Workspace(SIGN), Workspace(SIGN)
        one.batch(*ALL)
        self.assertEqual(state(other), ((), {}, []))
        third = Workspace.of(SIGN, *ALL)
        third.run("forget u")
        self.assertEqual(one.names, ("s", "t", "u"))

    def test_methods_stand_in_the_class(self):
        for method in ("of", "batch", "run"):
            self.assertIn(method, vars(Workspace))


class ErrorsTest(Spaces):
    def test_no_commands(self):
        space = Workspace.of(SIGN, *ALL)
        for line in [
            "", " ", "value", "value x", "value x ", "value  x end", " value x end", "value x end ", "value x  end",
            "Value x end", "values x end", "value X end", "value x1 end", "value abcdefghi end", "value x End",
            "value x end 0", "value x cons", "value x cons 1 1", "value x one one", "value x cons 1 0;one",
            "value x cons 1 0; one;", "value x cons 1 0; one; two", "value x cons 01 0; one",
            "value x cons 1 2; one; one",
            "value x cons 2 1; cons 2 0; one", "value x three", "value x\nend", "value x end\n", "\nvalue x end",
            "value x cons 1 0;\none", "program", "program x", "program x tags", "program X " + TEXT, "program " + TEXT,
            "program x " + TEXT + " ", "program x  " + TEXT, "program x " + TEXT + " / ", "program x " + TEXT + " /",
            "program x " + TEXT.replace(" / ", "\n"), "program x " + TEXT.replace(" / ", "/"),
            "program x " + TEXT.replace(" / ", "  / "), "program x " + TEXT.replace(" / ", " / / "),
            "program x " + TEXT.replace("make", "take"), "program x tags one 0 / make / f x = x",
            "program x tags cons 2 end 0 one 0 two 1 / make / f x = x", "program x / " + TEXT,
            "program x make / f x = x",
            "run", "run x", "run x p", "run X p swap u", "run x P swap u", "run x p Swap u", "run x p swap U",
            "run x p swap  u", "run x p swap u ", "run x p swap u!", "ask", "ask p", "ask p every U", "ask p every u ",
            "ask  p every u", "ask P every u", "ask p Every u", "ask p every abcdefghi", "ask p every\nu", "show",
            "show ", "show u u", "show U", "show u\n", "show  u", "same", "same u", "same u u u", "same u  u",
            "same u U",
            "parts", "parts u u", "parts 2", "forget", "forget u u", "forget u ", "forget U", "u", "help", "ok", "quit",
            "names", "batch show u", "ask\np every u", "show u; show u", "show u / show u", "value x cons 1 0 ; one",
        ]:
            self.check_error(space, line, InvalidCommand)

    def test_any_value(self):
        space = Workspace.of(SIGN, *ALL)
        for line in ANYTHING + [b"show u", ["show u"], ("show u",), ("show", "u"), {"show": "u"}]:
            if not isinstance(line, bytes):
                self.check_error(space, line, InvalidCommand)

    def test_names_taken(self):
        space = Workspace.of(SIGN, *ALL)
        self.check_error(space, "value u end", NameTaken, "u")
        self.check_error(space, "value u cons 1 0; one", NameTaken, "u")
        self.check_error(space, f"program p {TEXT}", NameTaken, "p")
        self.check_error(space, "run u p swap t", NameTaken, "u")
        self.assertEqual(space.run("value p end"), "ok")
        self.assertEqual(space.run(f"program u {TEXT}"), "ok")

    def test_unknown_items(self):
        space = Workspace.of(SIGN, *ALL)
        for line, name in [
            ("show x", "x"), ("show p", "p"), ("parts x", "x"), ("forget x", "x"), ("forget p", "p"), ("same x y", "x"),
            ("same u y", "y"), ("same y u", "y"), ("ask x far u", "x"), ("ask u far u", "u"), ("ask x far y", "x"),
            ("ask p far y", "y"), ("ask p far u y z", "y"), ("run x y swap u", "y"), ("run x y swap z", "y"),
            ("run x p swap z", "z"), ("run x p swap x", "x"), ("ask p far p", "p"),
        ]:
            self.check_error(space, line, UnknownItem, name)

    def test_programs_that_fail_a_check(self):
        space = Workspace.of(SIGN, *ALL)
        head = "program x tags cons 2 end 0 one 0 two 0 / "
        for text, error, path in [
            ("gather / g x = (root y)", UnknownName, (1, 0, 1, 0, 3)),
            ("gather / g x = (union (none) (one three))", UnknownTag, (1, 0, 1, 0, 3, 2)),
            ("make / g x = x / h x = (tag cons x)", WrongCount, (1, 0, 1, 1, 3)),
        ]:
            self.check_error(space, head + text, error, path)

    def test_the_first_of_several_errors(self):
        space = Workspace.of(SIGN, *ALL)
        for line, error, *values in [
            ("value u ends", InvalidCommand), ("program p tags", InvalidCommand), ("run u X nope y", InvalidCommand),
            ("run u x nope y", NameTaken, "u"), ("run u p far", NameTaken, "u"),
            (f"program p {FAULTY}", NameTaken, "p"), (f"program q {FAULTY}", UnknownName, (1, 0, 1, 0, 3)),
            ("program p tags one 0 / gather / g x = (root y)", InvalidCommand),
            ("run x q nope y", UnknownItem, "q"), ("run x p nope y", UnknownItem, "y"),
            ("run x p nope u u", UnknownFunction, "nope"), ("run x p far u u", WrongArguments, 2),
            ("run x p far", WrongArguments, 0), ("run x p far u", NoMaker, "far"),
            ("run x p every u", NoMaker, "every"), ("ask q nope y", UnknownItem, "q"),
            ("ask p nope y", UnknownItem, "y"), ("ask p nope", UnknownFunction, "nope"),
            ("ask p far u y", UnknownItem, "y"), ("ask p far u u", WrongArguments, 2), ("same y z", UnknownItem, "y"),
            ("same y z x", InvalidCommand), ("forget x y", InvalidCommand),
        ]:
            self.check_error(space, line, error, *values)

    def test_errors_are_told_apart(self):
        self.assertTrue(issubclass(InvalidCommand, RoundCallsError))
        self.assertFalse(issubclass(UnknownItem, RoundCallsError))

    def test_by_name(self):
        space = Workspace(signature=SIGN)
        self.assertEqual(space.run(line="value u end"), "ok")
        with self.assertRaises(InvalidCommand):
            space.run(line=None)
        self.assertEqual(Workspace.of(signature=SIGN).names, ())

    def test_arguments_unchanged(self):
        kept = copy.deepcopy((SIGN, ALL))
        lines = [["show u"], {"show": ["u"]}]
        space = Workspace.of(SIGN, *ALL)
        for line in lines:
            self.check_error(space, line, InvalidCommand)
        self.assertEqual((SIGN, ALL, lines), kept + ([["show u"], {"show": ["u"]}],))
        self.assertEqual([space.run("show u") for _ in range(3)], [format_value(ONES)] * 3)

    def test_long_and_random_lines(self):
        chance = random.Random(8)
        space = Workspace.of(SIGN, *ALL)
        words = "value program run ask show same parts forget u t s p x swap every far end cons 1 0 0; one ; / ("
        words = words.split()
        for _ in range(3000):
            line = " ".join(chance.choice(words) for _ in range(chance.randint(0, 6)))
            before = state(space) if chance.random() < 0.2 else None
            try:
                told = space.run(line)
                self.assertIs(type(told), str)
            except (RoundCallsError, KeyError):
                if before is not None:
                    self.assertEqual(state(space), before)
        for length in (1, 7, 1999, 2000, 10000):
            self.check_error(Workspace(SIGN), "value x " + "9" * length, InvalidCommand)
            self.check_error(Workspace(SIGN), "value x cons " + "9" * length + " 0", InvalidCommand)
            self.check_error(Workspace(SIGN), "program x " + "(" * length, InvalidCommand)
        self.assertEqual(part_count(TURNS), 4)
        self.assertEqual(format_value(SHORT), "cons 1 2; two; end")
