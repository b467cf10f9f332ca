import copy
import unittest

from roundcalls import errors
from tests.examples import ANYTHING

PLAIN = ("InvalidText", "InvalidCommand", "NotFinished")
PARAMETERS = {
    "NoPath": "path", "UnknownName": "path", "UnknownTag": "path", "WrongCount": "path", "WrongSort": "path",
    "WrongPlace": "path", "WrongArguments": "count", "NoCertificate": "name", "NoRuns": "name",
    "NotPending": "call", "NotPlain": "name", "NotSimple": "name", "NoMaker": "name", "NameTaken": "name",
}
KEY_ERRORS = ("UnknownFunction", "UnknownItem")


class ErrorsTest(unittest.TestCase):
    def test_base_class(self):
        self.assertEqual(errors.RoundCallsError.__bases__, (ValueError,))

    def test_direct_subclasses(self):
        for name in PLAIN + tuple(PARAMETERS):
            with self.subTest(name):
                self.assertEqual(getattr(errors, name).__bases__, (errors.RoundCallsError,))

    def test_key_errors(self):
        for name in KEY_ERRORS:
            with self.subTest(name):
                self.assertEqual(getattr(errors, name).__bases__, (KeyError,))
                self.assertFalse(issubclass(getattr(errors, name), errors.RoundCallsError))

    def test_defined_in_the_file(self):
        for name in PLAIN + tuple(PARAMETERS) + KEY_ERRORS:
            self.assertEqual(getattr(errors, name).__module__, "roundcalls.errors")

    def test_no_other_classes(self):
        found = [name for name, thing in vars(errors).items() if isinstance(thing, type)]
        self.assertEqual(sorted(found), sorted(PLAIN + tuple(PARAMETERS) + KEY_ERRORS + ("RoundCallsError",)))

    def test_errors_without_parameter(self):
        for name in PLAIN:
            with self.subTest(name), self.assertRaises(errors.RoundCallsError):
                raise getattr(errors, name)()

    def test_attribute_by_position_and_by_name(self):
        parameters = dict(PARAMETERS, UnknownFunction="name", UnknownItem="name")
        for name, parameter in parameters.items():
            for value in ANYTHING:
                kept = copy.deepcopy(value)
                by_position = getattr(errors, name)(value)
                by_name = getattr(errors, name)(**{parameter: value})
                self.assertIs(getattr(by_position, parameter), value)
                self.assertIs(getattr(by_name, parameter), value)
                self.assertEqual(value, kept)

    def test_each_parameter_is_needed(self):
        for name in tuple(PARAMETERS) + KEY_ERRORS:
            with self.subTest(name), self.assertRaises(TypeError):
                getattr(errors, name)()

    def test_caught_as_what_they_are(self):
        with self.assertRaises(ValueError):
            raise errors.NoPath((0,))
        with self.assertRaises(KeyError):
            raise errors.UnknownFunction("f")
