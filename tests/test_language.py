"""The rules of the subset that can be read off the code: the rest of them is for readers."""

import ast
import builtins
import importlib
import pathlib
import re
import unittest

PACKAGE = pathlib.Path(__file__).resolve().parent.parent / "roundcalls"
FILES = sorted(PACKAGE.rglob("*.py"))

LIBRARY = {
    "heapq": {"heappush", "heappop", "heapify", "heapreplace", "heappushpop"},
    "math": {"gcd", "lcm", "isqrt", "comb", "perm", "factorial"},
    "itertools": {"product", "combinations", "permutations", "chain", "accumulate", "pairwise", "islice",
                  "zip_longest"},
    "collections": {"defaultdict"},
}
BUILTINS = set(
    "len range enumerate zip map min max sum abs sorted reversed int str bool bytes list tuple dict set frozenset "
    "isinstance ord repr any all divmod pow getattr hasattr setattr iter next super property staticmethod "
    "classmethod Exception ValueError TypeError KeyError IndexError LookupError ZeroDivisionError ArithmeticError "
    "OverflowError RuntimeError NotImplementedError AttributeError StopIteration NotImplemented".split()
)
METHODS = set(
    "append clear copy count endswith extend find get index insert isalnum isalpha isdigit islower isspace isupper "
    "items join keys ljust lower lstrip partition pop remove replace reverse rfind rjust rpartition rsplit rstrip "
    "setdefault split splitlines startswith strip update upper values zfill bit_length title capitalize swapcase "
    "casefold center expandtabs removeprefix removesuffix rindex isascii isdecimal isnumeric istitle isidentifier "
    "isprintable translate add discard sort format __init__".split()
)
NODES_LEFT_OUT = (
    ast.AsyncFunctionDef, ast.AsyncFor, ast.AsyncWith, ast.Await, ast.Global, ast.Div, ast.MatMult, ast.MatchMapping,
    ast.Import,
)
UNUSED_WORDS = set(
    "register mro elements open input law version_info with_traceback add_note attrgetter breakpoint builtins compile "
    "copyright credits delattr dir eval exec exit gc globals help id importlib license locals methodcaller os quit "
    "type vars typing typing_extensions enum Enum IntEnum StrEnum Flag IntFlag Generic Protocol ABC ABCMeta "
    "namedtuple NamedTuple TypedDict TYPE_CHECKING abstractmethod sys".split()
)
# Builtin values have methods of these names, or they are named in the rules: no attribute is called so.
BARRED_ATTRIBUTES = set(
    "items keys values pop update append clear extend insert remove reverse setdefault sort args encode decode hex "
    "fromhex format format_map mro as_integer_ratio bit_count conjugate from_bytes is_integer to_bytes".split()
)
PLAIN_NAME = re.compile(r"^(_|_?[A-Za-z][A-Za-z0-9_]*|__(init|eq|repr|str|len|iter|call|enter|exit)__)$")
BARRED_NAME = re.compile(
    r"^(_wall|_pe_|_dcw_|_enum_|_cm_|_twin_re_|_lay_|_law_|_stub_|_sre"
    r"|_(cold|tuplegetter|outside|record|written_out|member_names)[0-9_]*$)"
)


def trees():
    return [(path, ast.parse(path.read_text())) for path in FILES]


def nodes(kind):
    return [(f"{path.name}:{node.lineno}", node) for path, tree in trees() for node in ast.walk(tree)
            if isinstance(node, kind)]


def bound_names(tree):
    """The names that a file binds, but for attributes and methods."""
    methods = {item for node in ast.walk(tree) if isinstance(node, ast.ClassDef) for item in node.body}
    for node in ast.walk(tree):
        if isinstance(node, ast.Name) and isinstance(node.ctx, ast.Store):
            yield node.id
        elif isinstance(node, ast.arg):
            yield node.arg
        elif isinstance(node, (ast.FunctionDef, ast.ClassDef)) and node not in methods:
            yield node.name


class LanguageTest(unittest.TestCase):
    def test_only_plain_files(self):
        for path in PACKAGE.rglob("*"):
            if "__pycache__" not in path.parts:
                self.assertTrue(path.is_dir() or re.match(r"^[a-z0-9_]+\.py$", path.name), path)

    def test_characters_and_sizes(self):
        for path in FILES:
            lines = path.read_text().split("\n")
            self.assertLessEqual(len(lines), 399, path.name)
            for number, line in enumerate(lines, start=1):
                self.assertLessEqual(len(line), 120, f"{path.name}:{number}")
                self.assertTrue(all(" " <= letter <= "~" for letter in line), f"{path.name}:{number}")

    def test_length_of_functions(self):
        for place, node in nodes(ast.FunctionDef):
            self.assertLessEqual(node.end_lineno - node.lineno + 1, 40, place)

    def test_statements_left_out(self):
        self.assertEqual([place for place, _ in nodes(NODES_LEFT_OUT)], [])

    def test_numbers_and_strings(self):
        for place, node in nodes(ast.Constant):
            self.assertNotIsInstance(node.value, (float, complex), place)
            if isinstance(node.value, str):
                self.assertNotIn("%", node.value, place)

    def test_imports(self):
        for place, node in nodes(ast.ImportFrom):
            self.assertEqual(node.level, 0, place)
            for alias in node.names:
                if node.module in LIBRARY:
                    self.assertIn(alias.name, LIBRARY[node.module], place)
                    self.assertIsNone(alias.asname, place)
                else:
                    self.assertTrue(node.module.startswith("roundcalls."), place)
                    self.assertNotEqual(alias.name, "*", place)
                    thing = getattr(importlib.import_module(node.module), alias.name)
                    self.assertEqual(getattr(thing, "__module__", node.module), node.module, place)

    def test_imports_in_one_direction(self):
        imported = {
            "roundcalls." + path.stem: {node.module for node in ast.walk(tree) if isinstance(node, ast.ImportFrom)}
            for path, tree in trees()
        }
        while imported:
            ends = [name for name, others in imported.items() if not others & set(imported)]
            self.assertTrue(ends, imported)
            for name in ends:
                del imported[name]

    def test_builtins(self):
        for place, node in nodes(ast.Name):
            if isinstance(node.ctx, ast.Load) and hasattr(builtins, node.id):
                self.assertIn(node.id, BUILTINS, place)

    def test_methods(self):
        own = {node.name for _, node in nodes(ast.FunctionDef)}
        for place, node in nodes(ast.Call):
            if isinstance(node.func, ast.Attribute):
                self.assertIn(node.func.attr, METHODS | own, place)

    def test_names(self):
        for path, tree in trees():
            for name in bound_names(tree):
                self.assertRegex(name, PLAIN_NAME, path.name)
                self.assertNotRegex(name, BARRED_NAME, path.name)
                self.assertFalse(hasattr(builtins, name), f"{path.name}: {name}")
                self.assertNotIn(name, UNUSED_WORDS, path.name)

    def test_attributes(self):
        for place, node in nodes(ast.Attribute):
            self.assertRegex(node.attr, PLAIN_NAME, place)
            self.assertNotRegex(node.attr, BARRED_NAME, place)
            self.assertNotIn(node.attr, UNUSED_WORDS, place)

    def test_attributes_that_are_assigned(self):
        for place, node in nodes(ast.Attribute):
            if isinstance(node.ctx, ast.Store):
                self.assertNotIn(node.attr, BARRED_ATTRIBUTES, place)
                self.assertIsInstance(node.value, ast.Name, place)
        for place, node in nodes(ast.ClassDef):
            methods = {item.name for item in node.body if isinstance(item, ast.FunctionDef)}
            stored = {inner.attr for inner in ast.walk(node)
                      if isinstance(inner, ast.Attribute) and isinstance(inner.ctx, ast.Store)}
            self.assertEqual(methods & stored, set(), place)

    def test_generators_share_their_names_with_nothing(self):
        names = [node.name for _, node in nodes(ast.FunctionDef)]
        for place, node in nodes(ast.FunctionDef):
            if any(isinstance(inner, (ast.Yield, ast.YieldFrom)) for inner in ast.walk(node)):
                self.assertEqual(names.count(node.name), 1, place)
                self.assertNotIn(node.name, METHODS, place)

    def test_names_bound_once_in_a_file(self):
        for path, tree in trees():
            top = []
            for node in tree.body:
                if isinstance(node, ast.ImportFrom):
                    top.extend(alias.asname or alias.name for alias in node.names)
                elif isinstance(node, (ast.FunctionDef, ast.ClassDef)):
                    top.append(node.name)
                elif isinstance(node, ast.Assign):
                    top.extend(target.id for target in node.targets)
                else:
                    self.assertIsInstance(node, ast.Expr, path.name)
            self.assertEqual(len(top), len(set(top)), path.name)

    def test_local_names_hide_no_import_or_class(self):
        for path, tree in trees():
            outer = {alias.asname or alias.name for node in tree.body if isinstance(node, ast.ImportFrom)
                     for alias in node.names}
            outer |= {node.name for node in tree.body if isinstance(node, ast.ClassDef)}
            for node in ast.walk(tree):
                if isinstance(node, ast.FunctionDef):
                    self.assertFalse(outer & set(bound_names(node)) - {node.name}, f"{path.name}: {node.name}")

    def test_docstrings(self):
        for path, tree in trees():
            for node in ast.walk(tree):
                if isinstance(node, (ast.Module, ast.FunctionDef, ast.ClassDef)):
                    if getattr(node, "name", "") != "__init__":
                        self.assertTrue(ast.get_docstring(node), f"{path.name}: {getattr(node, 'name', '')}")
