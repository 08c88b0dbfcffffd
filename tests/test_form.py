"""The interface's names in their files, and those rules of the form that a look at the code can tell."""

import ast
import builtins
import re
import unittest
from functools import cache
from pathlib import Path

PACKAGE = Path(__file__).resolve().parent.parent / "freesets"

# For each file of the interface: its functions with their arguments, and its classes with their methods.
INTERFACE = {
    "errors": {
        "FreeError": {}, "BadRule": {}, "BadThing": {}, "BadWeights": {}, "NotFree": {}, "NotWhole": {}, "BadText": {},
    },
    "rules": {
        "Rule": {"many": [], "free": ["some"]},
        "Threads": {"__init__": ["places", "ties"], "many": [], "free": ["some"]},
        "Kinds": {"__init__": ["kinds", "most"], "many": [], "free": ["some"]},
        "Posts": {"__init__": ["wants"], "many": [], "free": ["some"]},
        "Bits": {"__init__": ["rows"], "many": [], "free": ["some"]},
    },
    "ranks": {
        "rank": ["rule", "some"], "grown": ["rule", "some"], "reach": ["rule", "some"],
        "ring": ["rule", "some", "thing"],
    },
    "made": {
        "Turned": {"__init__": ["rule"], "many": [], "free": ["some"]},
        "Cut": {"__init__": ["rule", "bound"], "many": [], "free": ["some"]},
        "Kept": {"__init__": ["rule", "some"], "many": [], "free": ["some"]},
        "Held": {"__init__": ["rule", "some"], "many": [], "free": ["some"]},
        "Beside": {"__init__": ["one", "other"], "many": [], "free": ["some"]},
        "Joined": {"__init__": ["rules"], "many": [], "free": ["some"]},
    },
    "answers": {
        "Answer": {}, "Parts": {"__init__": ["parts"]}, "Packs": {"__init__": ["packs"]},
        "Crowded": {"__init__": ["some"]}, "Bar": {"__init__": ["some"]}, "Common": {"__init__": ["some", "part"]},
    },
    "parting": {"parted": ["rules"], "covered": ["rule", "times"], "packed": ["rule", "times"]},
    "wholes": {
        "whole": ["rule"], "is_whole": ["rule", "some"], "changes": ["rule", "one", "other"],
        "both_ways": ["rule", "one", "other", "thing"], "wholes": ["rule"], "rings": ["rule"],
        "heaviest": ["rule", "weights"], "lightest": ["rule", "weights"],
    },
    "meeting": {"common": ["one", "other"]},
    "texts": {"written": ["rule"], "read": ["text"]},
}

BUILTINS = set(
    "len range enumerate zip min max sum abs sorted reversed int str bool list tuple dict set isinstance ord repr any "
    "all divmod iter next ValueError KeyError IndexError LookupError ZeroDivisionError NotImplementedError "
    "RuntimeError object super property staticmethod classmethod".split())
BUILTIN_METHODS = set(
    "append clear copy count endswith extend find get index insert isalnum isalpha isdigit islower isspace isupper "
    "items join keys ljust lower lstrip partition pop remove replace reverse rfind rjust rpartition rsplit rstrip "
    "setdefault split splitlines startswith strip update upper values zfill bit_length add discard sort".split())
BARRED_WORDS = (
    "type typing typing_extensions enum Enum IntEnum StrEnum Flag IntFlag Generic Protocol ABC ABCMeta namedtuple "
    "NamedTuple TypedDict TYPE_CHECKING abstractmethod").split()
BARRED_NODES = (
    ast.Import, ast.Global, ast.AsyncFunctionDef, ast.AsyncFor, ast.AsyncWith, ast.Await, ast.Div, ast.MatMult)


def files():
    return sorted(PACKAGE.glob("*.py"))


@cache
def trees():
    return [(path.name, ast.parse(path.read_text())) for path in files()]


def every(kind):
    return [(name, node) for name, tree in trees() for node in ast.walk(tree) if isinstance(node, kind)]


def names_defined(path):
    """The functions, classes and values that a file itself defines."""
    return names_bound(ast.Module([node for node in ast.parse(path.read_text()).body
                                   if not isinstance(node, ast.ImportFrom)], []))


def names_bound(tree):
    """The names that a file binds at module level, as often as it does."""
    found = []
    for node in tree.body:
        if isinstance(node, (ast.ClassDef, ast.FunctionDef)):
            found.append(node.name)
        elif isinstance(node, ast.ImportFrom):
            found.extend(alias.asname or alias.name for alias in node.names)
        elif isinstance(node, ast.Assign):
            found.extend(target.id for target in node.targets)
    return found


@cache
def methods_defined():
    return {part.name for name, node in every(ast.ClassDef) for part in node.body if isinstance(part, ast.FunctionDef)}


@cache
def attributes_stored():
    return {node.attr for name, node in every(ast.Attribute) if isinstance(node.ctx, ast.Store)}


def arguments(function):
    return [argument.arg for argument in function.args.args]


class InterfaceTest(unittest.TestCase):
    def test_each_name_is_defined_in_its_file(self):
        for name, wanted in INTERFACE.items():
            tree = ast.parse((PACKAGE / (name + ".py")).read_text())
            found = {node.name: node for node in tree.body if isinstance(node, (ast.ClassDef, ast.FunctionDef))}
            for entry, told in wanted.items():
                with self.subTest(file=name, entry=entry):
                    self.check_entry(found[entry], told)

    def check_entry(self, node, told):
        if isinstance(told, list):
            self.assertIsInstance(node, ast.FunctionDef)
            self.assertEqual(arguments(node), told)
            return
        self.assertIsInstance(node, ast.ClassDef)
        methods = {part.name: part for part in node.body if isinstance(part, ast.FunctionDef)}
        for method, given in told.items():
            self.assertEqual(arguments(methods[method]), ["self"] + given)


class FormTest(unittest.TestCase):
    def test_the_folder_holds_only_files_of_plain_names(self):
        for path in PACKAGE.iterdir():
            if path.name != "__pycache__":
                self.assertTrue(path.is_file() and re.fullmatch(r"[a-z_][a-z0-9_]*\.py", path.name), path.name)

    def test_characters_lines_and_words(self):
        for path in files():
            text = path.read_text()
            self.assertRegex(text, r"\A[ -~\n]*\Z")
            lines = text.split("\n")
            self.assertLess(len(lines), 400)
            self.assertLessEqual(max(len(line) for line in lines), 120)
            for word in re.findall(r"\w+", text):
                self.assertNotIn(word, BARRED_WORDS)
                self.assertNotRegex(word, "dataclass|overload|contextmanager")

    def test_functions_are_short(self):
        for name, node in every((ast.FunctionDef, ast.Lambda)):
            self.assertLessEqual(node.end_lineno - node.lineno, 39, name)

    def test_imports(self):
        for name, node in every(ast.ImportFrom):
            self.assertEqual(node.level, 0, name)
            self.assertRegex(node.module, r"\Afreesets\.[a-z]+\Z", name)
            defined = names_defined(PACKAGE / (node.module.split(".")[1] + ".py"))
            for alias in node.names:
                self.assertIn(alias.name, defined, name)
        for name, tree in trees():
            kinds = [isinstance(node, ast.ImportFrom) for node in tree.body[1:]]
            self.assertEqual(kinds, sorted(kinds, reverse=True), name)

    def test_no_barred_statement_or_sign(self):
        self.assertEqual(every(BARRED_NODES), [])
        for name, node in every(ast.Constant):
            self.assertNotIsInstance(node.value, (float, complex), name)

    def test_names(self):
        for name, node in every(ast.Name):
            self.assertRegex(node.id, r"\A[A-Za-z]", name)
            if hasattr(builtins, node.id):
                self.assertIn(node.id, BUILTINS, name)
                self.assertIsInstance(node.ctx, ast.Load, name)
        for name, node in every(ast.arg):
            self.assertFalse(hasattr(builtins, node.arg) or node.arg.startswith("_"), name)

    def test_no_name_is_both_a_method_and_an_attribute(self):
        self.assertEqual(methods_defined() & attributes_stored(), set())

    def test_methods_and_attributes_are_own_ones_or_allowed(self):
        for name, node in every(ast.Call):
            if isinstance(node.func, ast.Attribute):
                self.assertIn(node.func.attr, methods_defined() | BUILTIN_METHODS, name)
        for name, node in every(ast.Attribute):
            self.assertIn(node.attr, methods_defined() | attributes_stored() | BUILTIN_METHODS, name)
        for own in methods_defined() | attributes_stored():
            for value in (0, "", b"", [], (), {}, set()):
                self.assertFalse(hasattr(value, own) and own != "__init__", own)

    def test_no_local_name_is_that_of_a_class_or_an_import_of_its_file(self):
        for name, tree in trees():
            taken = {node.name for node in tree.body if isinstance(node, ast.ClassDef)}
            taken |= {alias.name for node in tree.body if isinstance(node, ast.ImportFrom) for alias in node.names}
            for function in [node for node in ast.walk(tree) if isinstance(node, ast.FunctionDef)]:
                stored = {node.id for node in ast.walk(function)
                          if isinstance(node, ast.Name) and isinstance(node.ctx, ast.Store)}
                self.assertEqual((stored | set(arguments(function))) & taken, set(), name)

    def test_no_two_files_import_from_each_other(self):
        beneath = {path.stem: {node.module.split(".")[1] for node in ast.parse(path.read_text()).body
                               if isinstance(node, ast.ImportFrom)} for path in files()}
        while beneath:
            ready = [stem for stem, needs in beneath.items() if not needs & set(beneath)]
            self.assertTrue(ready, beneath)
            beneath = {stem: needs for stem, needs in beneath.items() if stem not in ready}

    def test_what_stands_at_module_level(self):
        allowed = (ast.ImportFrom, ast.FunctionDef, ast.ClassDef, ast.Assign)
        for name, tree in trees():
            self.assertIsNotNone(ast.get_docstring(tree), name)
            for node in tree.body[1:]:
                self.assertIsInstance(node, allowed, name)
            bound = names_bound(tree)
            self.assertEqual(len(bound), len(set(bound)), name)
