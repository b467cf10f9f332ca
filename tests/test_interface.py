"""The interface as a whole: its names, its parameters by position and by name, and what no function changes."""

import copy
import importlib
import inspect
import itertools
import unittest

from roundcalls.certificates import certificate
from roundcalls.leading import joined, led_back
from roundcalls.machine import Machine
from roundcalls.programtexts import format_program
from roundcalls.rewriting import press_ranks, split_groups
from roundcalls.running import answer
from roundcalls.tops import top
from roundcalls.walks import Recorder, Walker
from roundcalls.wishing import wish
from roundcalls.workspace import Workspace
from tests.examples import LONG, ONES, PROGRAM, SHORT, SIGN, TURNS
from tests.test_wishing import NO_WISHES, WISHES

FUNCTIONS = {
    "signatures": {"is_name": "thing", "is_signature": "thing"},
    "sheets": {"is_sheet": "signature, thing", "least_sheet": "sheet", "part_count": "sheet", "node_count": "sheet"},
    "sameness": {
        "are_same": "sheet, other", "parting_path": "sheet, other", "same_pairs": "sheet, other",
        "pairs_hold": "sheet, other, thing",
    },
    "paths": {"tag_at": "sheet, path", "part_at": "sheet, path", "all_parts": "sheet"},
    "walks": {"walk": "sheet"},
    "ordering": {"compare_values": "sheet, other", "sort_values": "*sheets, reverse=False"},
    "tops": {"top": "sheet, depth", "is_top": "signature, depth, thing"},
    "edits": {
        "replace_at": "sheet, path, other", "replace_everywhere": "sheet, part, other", "rename_tags": "sheet, **tags",
    },
    "hidden": {
        "told_back": "signature, n, top", "untold_holds": "signature, n, top, thing", "telling_paths": "*sheets",
    },
    "valuetexts": {"format_value": "sheet", "parse_value": "signature, text"},
    "programs": {"is_program": "thing"},
    "programtexts": {"format_program": "program", "parse_program": "text"},
    "checking": {"check_program": "program"},
    "settling": {"settle": "program, call", "needed_calls": "program, call"},
    "running": {"answer": "program, name, *arguments", "runs": "program, name, *arguments"},
    "certificates": {
        "certificate": "program, name, *arguments", "certificate_holds": "program, name, arguments, thing",
    },
    "leading": {"led_back": "program, maker, function", "joined": "program, first, *others"},
    "rewriting": {"split_groups": "program", "press_ranks": "program"},
    "wishing": {"wish": "program, name", "no_wish_holds": "program, name, thing"},
    "claims": {"claim_holds": "thing"},
}
CLASSES = {
    ("walks", "Walker"): ("sheet", {"go": "path", "down": "field", "up": "", "start": "sheet, *fields"}),
    ("walks", "Recorder"): ("sheet", {"go": "path", "down": "field", "up": ""}),
    ("machine", "Machine"): ("program, name, *arguments", {"steps": "", "expand": "call"}),
    ("workspace", "Workspace"): ("signature", {"of": "signature, *lines", "batch": "*lines", "run": "line"}),
}
TOP = top(TURNS, 2)
CERTIFICATE = certificate(PROGRAM, "far", ONES)
ROWS = wish(NO_WISHES, "list")[1]
# Arguments by name: right ones, and such that raise errors.
CALLS = {
    "is_name": [{"thing": "cons"}, {"thing": 1}],
    "is_signature": [{"thing": SIGN}, {"thing": None}],
    "is_sheet": [{"signature": SIGN, "thing": ONES}],
    "least_sheet": [{"sheet": LONG}], "part_count": [{"sheet": LONG}], "node_count": [{"sheet": SHORT}],
    "are_same": [{"sheet": ONES, "other": LONG}], "parting_path": [{"sheet": ONES, "other": TURNS}],
    "same_pairs": [{"sheet": ONES, "other": LONG}],
    "pairs_hold": [{"sheet": ONES, "other": LONG, "thing": ((0, 0), (0, 1), (1, 2))}],
    "tag_at": [{"sheet": TURNS, "path": (1, 0)}, {"sheet": TURNS, "path": (0, 0)}],
    "part_at": [{"sheet": TURNS, "path": (1,)}, {"sheet": TURNS, "path": (5,)}], "all_parts": [{"sheet": LONG}],
    "walk": [{"sheet": SHORT}], "compare_values": [{"sheet": ONES, "other": TURNS}],
    "top": [{"sheet": TURNS, "depth": 2}], "is_top": [{"signature": SIGN, "depth": 2, "thing": TOP}],
    "replace_at": [{"sheet": ONES, "path": (1,), "other": SHORT}, {"sheet": ONES, "path": (0, 0), "other": SHORT}],
    "replace_everywhere": [{"sheet": TURNS, "part": (("two", ()),), "other": SHORT}],
    "rename_tags": [{"sheet": TURNS, "one": "two"}],
    "told_back": [{"signature": SIGN, "n": 2, "top": TOP}],
    "untold_holds": [{"signature": SIGN, "n": 2, "top": TOP, "thing": ((), (0,), (1, 0))}],
    "format_value": [{"sheet": LONG}],
    "parse_value": [{"signature": SIGN, "text": "end"}, {"signature": SIGN, "text": "ends"}],
    "is_program": [{"thing": PROGRAM}], "format_program": [{"program": PROGRAM}],
    "parse_program": [{"text": format_program(PROGRAM)}, {"text": ""}],
    "check_program": [{"program": PROGRAM},
                      {"program": (SIGN, (("gather", (("items", ("x",), 0, ("root", "y")),)),))}],
    "settle": [{"program": PROGRAM, "call": ("far", (ONES,))}, {"program": PROGRAM, "call": ("fa", (ONES,))}],
    "needed_calls": [{"program": PROGRAM, "call": ("far", (ONES,))}, {"program": PROGRAM, "call": ("far", ())}],
    "certificate_holds": [
        {"program": PROGRAM, "name": "far", "arguments": (LONG,), "thing": CERTIFICATE},
        {"program": PROGRAM, "name": "swap", "arguments": (LONG,), "thing": CERTIFICATE},
        {"program": PROGRAM, "name": "swap", "arguments": (), "thing": CERTIFICATE},
    ],
    "answer": [{"program": PROGRAM, "name": "far"}, {"program": PROGRAM, "name": "x"}],
    "runs": [{"program": PROGRAM, "name": "far"}, {"program": PROGRAM, "name": "x"}],
    "certificate": [{"program": PROGRAM, "name": "far"}, {"program": PROGRAM, "name": "x"}],
    "led_back": [{"program": PROGRAM, "maker": "swap", "function": "far"},
                 {"program": PROGRAM, "maker": "far", "function": "swap"},
                 {"program": PROGRAM, "maker": "f", "function": "s"}],
    "joined": [{"program": PROGRAM, "first": "swap"}, {"program": PROGRAM, "first": "far"}],
    "split_groups": [{"program": PROGRAM}], "press_ranks": [{"program": PROGRAM}],
    "wish": [{"program": WISHES, "name": "list"}, {"program": WISHES, "name": "far"},
             {"program": PROGRAM, "name": "far"}],
    "no_wish_holds": [{"program": NO_WISHES, "name": "list", "thing": ROWS},
                      {"program": PROGRAM, "name": "far", "thing": ROWS}],
    "claim_holds": [{"thing": ("parted", SIGN, ONES, TURNS, (1, 0))}],
}


def outcome(deed):
    """What a call returns, or the error that it raises with what it is about."""
    try:
        found = deed()
        return list(found) if inspect.isgenerator(found) else found
    except (ValueError, KeyError) as error:
        return type(error).__name__, vars(error)


def written(parameters):
    """The parameters of a signature as a text, those of an object itself left out."""
    return ", ".join(str(parameter) for parameter in parameters if parameter.name != "self")


class InterfaceTest(unittest.TestCase):
    def functions(self):
        for module, members in FUNCTIONS.items():
            for name, parameters in members.items():
                yield module, name, parameters, getattr(importlib.import_module(f"roundcalls.{module}"), name)

    def test_functions_and_their_parameters(self):
        for module, name, parameters, function in self.functions():
            self.assertEqual(function.__module__, f"roundcalls.{module}", name)
            found = inspect.signature(function).parameters.values()
            self.assertEqual(written(found), parameters, name)

    def test_classes_and_their_methods(self):
        for (module, name), (parameters, methods) in CLASSES.items():
            thing = getattr(importlib.import_module(f"roundcalls.{module}"), name)
            self.assertEqual(thing.__module__, f"roundcalls.{module}")
            self.assertEqual(written(inspect.signature(thing).parameters.values()), parameters, name)
            for method, expected in methods.items():
                self.assertIn(method, vars(thing))
                found = inspect.signature(getattr(thing, method)).parameters.values()
                self.assertEqual(written(found), expected, f"{name}.{method}")

    def test_by_name_in_every_order(self):
        for _, name, parameters, function in self.functions():
            if name in ("sort_values", "telling_paths"):
                continue
            for arguments in CALLS[name]:
                kept = copy.deepcopy(arguments)
                plain = [] if name == "rename_tags" else list(arguments.values())
                by_place = outcome(lambda: function(*plain) if plain else function(TURNS, one="two"))
                for order in itertools.permutations(arguments.items()):
                    self.assertEqual(repr(outcome(lambda: function(**dict(order)))), repr(by_place), name)
                for cut in range(len(plain)):
                    rest = dict(list(arguments.items())[cut:])
                    self.assertEqual(repr(outcome(lambda: function(*plain[:cut], **rest))), repr(by_place), name)
                self.assertEqual(repr(arguments), repr(kept))

    def test_every_function_is_called(self):
        named = {name for members in FUNCTIONS.values() for name in members}
        self.assertEqual(set(CALLS), named - {"sort_values", "telling_paths"})

    def test_methods_by_name(self):
        for kind in (Walker, Recorder):
            walker = kind(sheet=TURNS)
            self.assertEqual((walker.go(path=(1,)), walker.down(field=0), walker.up()), ((1,), (1, 0), (1,)))
            self.assertEqual(kind.start(sheet=TURNS).path, ())
        machine = Machine(PROGRAM, "items", ONES)
        self.assertEqual(machine.expand(call=("items", (ONES,)))[0], "union")
        space = Workspace.of(signature=SIGN)
        self.assertEqual(space.run(line="value u end"), "ok")
        self.assertEqual(Workspace(signature=SIGN).batch(), ())

    def test_the_folder(self):
        package = importlib.import_module("roundcalls")
        self.assertEqual(len(list(package.__path__)), 1)


class GuaranteeTest(unittest.TestCase):
    """What the document promises over the whole program, tied together."""

    def test_values_that_the_package_returns_are_valid_arguments(self):
        wider, name = led_back(PROGRAM, "swap", "far")
        wider, twice = joined(wider, "swap")
        for change in (split_groups, press_ranks, lambda whole: split_groups(press_ranks(whole))):
            changed = change(wider)
            for sheet in (ONES, TURNS, SHORT, LONG):
                self.assertEqual(answer(changed, name, sheet), answer(PROGRAM, "far", answer(PROGRAM, "swap", sheet)))
                self.assertEqual(answer(changed, twice, sheet), answer(PROGRAM, "swap", sheet))
                machine = Machine(changed, name, sheet)
                self.assertEqual(len(list(machine.steps())) > 0, True)
                self.assertEqual(machine.answer, answer(wider, name, sheet))

    def test_everything_that_is_imported_is_in_the_package(self):
        for module in FUNCTIONS:
            self.assertTrue(importlib.import_module(f"roundcalls.{module}").__doc__)
