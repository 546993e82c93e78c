"""The form of the program: what of LANGUAGE.md can be seen by a plain look, and the interface."""

import ast
import builtins
import importlib
import os
import re
import unittest

import primezeros

FOLDER = os.path.dirname(os.path.abspath(primezeros.__file__))

INTERFACE = {
    "errors": (
        "RestError", "BadField", "BadPoly", "BadPoint", "BadSystem", "BadBox", "BadLot", "BadPlanes",
        "BadVectors", "BadNumber", "BadPaper", "BadText", "NothingLeft", "TooGreat",
    ),
    "fields": ("need_field", "points"),
    "polys": (
        "need_poly", "value_at", "values", "degree", "reduced", "added", "multiplied", "poly_of",
        "are_alike", "parting_point",
    ),
    "systems": ("need_system", "zeros", "count", "indicator", "have_alike_zeros", "one_poly"),
    "promises": ("promise", "top", "least_zeros", "norm", "lonely", "is_lonely"),
    "boxes": ("rest_in", "alive_point", "is_promised"),
    "hidden": ("depth", "depth_paper", "check_depth"),
    "planes": ("uncovered", "cover", "is_cover"),
    "sums": ("nought_lot", "many_nought_lots", "even_lot", "sure_many"),
    "live": ("Live", "under"),
    "texts": ("poly_text", "point_text", "read_poly"),
    "desk": ("Desk",),
}

METHODS = {
    ("live", "Live"): (
        "__init__", "field", "put", "strike", "turn", "conditions", "holding", "holds", "promise", "__len__", "undo",
        "copy", "__eq__", "trial",
    ),
    ("desk", "Desk"): ("__init__", "live", "say"),
}

LIBRARY = {
    "heapq": {"heappush", "heappop", "heapify", "heapreplace", "heappushpop"},
    "math": {"gcd", "lcm", "isqrt", "comb", "perm", "factorial"},
    "itertools": {"product", "combinations", "permutations"},
}

BUILTINS = set(
    "len range enumerate zip min max sum abs sorted reversed int str bool bytes list tuple dict set frozenset "
    "isinstance ord repr any all divmod iter next map super property staticmethod classmethod "
    "Exception ValueError TypeError KeyError IndexError LookupError ZeroDivisionError ArithmeticError "
    "OverflowError RuntimeError NotImplementedError AttributeError StopIteration NotImplemented".split()
)

BARRED_NODES = (
    ast.Global, ast.AsyncFunctionDef, ast.AsyncFor, ast.AsyncWith, ast.Await, ast.Div, ast.MatMult, ast.Import,
    ast.GeneratorExp,
)

BARRED_WORDS = re.compile(
    r"\b(_wall|_WallAttr|register|mro|elements|open|input|law|version_info|eval|exec|getattr|setattr|globals)\b"
)


def file_names():
    return sorted(name for name in os.listdir(FOLDER) if name != "__pycache__")


def read(name):
    with open(os.path.join(FOLDER, name), encoding="ascii", newline="") as file:
        return file.read()


def trees():
    return [(name, ast.parse(read(name))) for name in file_names()]


class Files(unittest.TestCase):
    def test_plain_files_alone(self):
        for name in file_names():
            self.assertRegex(name, r"\A(__init__|[a-z][a-z0-9_]*)\.py\Z")
        self.assertIn("__init__.py", file_names())

    def test_characters_and_sizes(self):
        for name in file_names():
            lines = read(name).split("\n")
            self.assertLess(len(lines), 400, name)
            for line in lines:
                self.assertRegex(line, r"\A[ -~]{0,120}\Z", name)
            self.assertIsNone(BARRED_WORDS.search(read(name)), name)

    def test_functions_have_at_most_40_lines(self):
        for name, tree in trees():
            for node in ast.walk(tree):
                if isinstance(node, ast.FunctionDef):
                    self.assertLessEqual(node.end_lineno - node.lineno + 1, 40, (name, node.name))


class Language(unittest.TestCase):
    def nodes(self):
        for name, tree in trees():
            for node in ast.walk(tree):
                yield (name, getattr(node, "lineno", 0)), node

    def test_statements_and_operators(self):
        for place, node in self.nodes():
            self.assertNotIsInstance(node, BARRED_NODES, place)
            if isinstance(node, ast.BinOp) and isinstance(node.op, ast.Pow):
                self.assertIsInstance(node.right, ast.Constant, place)
                self.assertIn(node.right.value, range(65), place)

    def test_values(self):
        for place, node in self.nodes():
            if isinstance(node, ast.Constant):
                self.assertNotIsInstance(node.value, (float, complex), place)
                if isinstance(node.value, str):
                    self.assertNotIn("%", node.value, place)

    def test_builtins(self):
        for place, node in self.nodes():
            if isinstance(node, ast.Name) and hasattr(builtins, node.id):
                self.assertIn(node.id, BUILTINS, place)
                self.assertIsInstance(node.ctx, ast.Load, place)
            if isinstance(node, (ast.FunctionDef, ast.ClassDef)) and not node.name.startswith("__"):
                self.assertFalse(hasattr(builtins, node.name), place)
            if isinstance(node, ast.arg):
                self.assertFalse(hasattr(builtins, node.arg), place)

    def test_imports_from_the_file_that_defines_the_name(self):
        told = {name[:-3]: tree for name, tree in trees()}
        for place, node in self.nodes():
            if not isinstance(node, ast.ImportFrom):
                continue
            self.assertEqual(node.level, 0, place)
            for each in node.names:
                if node.module in LIBRARY:
                    self.assertIn(each.name, LIBRARY[node.module], place)
                    continue
                package, _, file = node.module.partition(".")
                self.assertEqual(package, "primezeros", place)
                self.assertIn(each.name, bound_names(told[file]), place)

    def test_no_local_name_is_that_of_an_import_or_a_class(self):
        for name, tree in trees():
            taken = {each.name for node in tree.body if isinstance(node, ast.ImportFrom) for each in node.names}
            taken |= {node.name for node in tree.body if isinstance(node, ast.ClassDef)}
            for node in ast.walk(tree):
                if isinstance(node, ast.Name) and isinstance(node.ctx, ast.Store):
                    self.assertNotIn(node.id, taken, (name, node.lineno))
                if isinstance(node, ast.arg):
                    self.assertNotIn(node.arg, taken, (name, node.lineno))

    def test_no_state_and_no_call_at_module_level(self):
        plain = (ast.FunctionDef, ast.ClassDef, ast.ImportFrom, ast.Assign)
        for name, tree in trees():
            for node in tree.body[1:]:
                self.assertIsInstance(node, plain, (name, node.lineno))
                if isinstance(node, ast.Assign):
                    calls = [part for part in ast.walk(node) if isinstance(part, ast.Call)]
                    self.assertEqual(calls, [], (name, node.lineno))
            self.assertIsNotNone(ast.get_docstring(tree), name)


def bound_names(tree):
    """The names of the functions, classes and values that a file defines."""
    names = set()
    for node in tree.body:
        if isinstance(node, (ast.FunctionDef, ast.ClassDef)):
            names.add(node.name)
        elif isinstance(node, ast.Assign):
            names.add(node.targets[0].id)
    return names


class Interface(unittest.TestCase):
    def test_each_name_is_defined_in_its_file(self):
        told = dict(trees())
        for file, names in INTERFACE.items():
            module = importlib.import_module("primezeros." + file)
            for name in names:
                self.assertIn(name, bound_names(told[file + ".py"]))
                self.assertEqual(getattr(module, name).__module__, "primezeros." + file)

    def test_each_method_is_defined_in_its_class(self):
        told = dict(trees())
        for (file, name), methods in METHODS.items():
            for node in told[file + ".py"].body:
                if isinstance(node, ast.ClassDef) and node.name == name:
                    here = [part.name for part in node.body if isinstance(part, ast.FunctionDef)]
                    self.assertEqual(len(here), len(set(here)))
                    self.assertLessEqual(set(methods), set(here))
                    break
            else:
                self.fail((file, name))
