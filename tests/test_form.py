"""The interface as the document lists it, and the plain rules for the files of the package."""

import ast
import builtins
import importlib
import inspect
import pathlib
import random
import re
import subprocess
import sys
import unittest

from tests.calls import CALLS

ROOT = pathlib.Path(__file__).resolve().parent.parent
PACKAGE = ROOT / "eachinturn"

INTERFACE = {
    "eachinturn.halls": {
        "is_web": ["thing"], "neighbours": ["web", "place"], "pieces": ["web"], "is_forest": ["web"],
        "is_hall": ["thing"], "table_of": ["hall", "place"], "with_tables": ["hall"], "states_of": ["hall"],
        "number_of": ["hall", "state"],
    },
    "eachinturn.rows": {"write_hall": ["hall"], "read_hall": ["text"]},
    "eachinturn.days": {
        "step": ["hall", "state", "place"], "day": ["hall", "order", "state"],
        "story": ["hall", "order", "state", "count"], "after": ["hall", "order", "state", "count"],
        "day_table": ["hall", "order"], "ahead_of": ["hall", "order", "state"], "without_past": ["hall", "order"],
        "watched": ["hall", "order", "state", "place", "count"],
        "first_unlike_day": ["hall", "order", "other", "state"],
    },
    "eachinturn.rings": {
        "rings": ["hall", "order"], "ring_lengths": ["hall", "order"], "ring_of": ["hall", "order", "state"],
        "deepest": ["hall", "order"], "return_paper": ["hall", "order", "state"],
        "return_holds": ["hall", "order", "state", "thing"],
        "same_far": ["hall", "order", "state", "other", "count"], "meet": ["hall", "order", "state", "other"],
    },
    "eachinturn.alike": {
        "arrows": ["web", "order"], "are_alike": ["web", "order", "other"], "first_alike": ["web", "order"],
        "count_alike": ["web", "order"], "order_for": ["web", "arrows"], "arrow_ring": ["web", "arrows"],
        "arrow_ring_holds": ["web", "arrows", "thing"], "exchanges": ["web", "order", "other"],
        "exchanges_hold": ["web", "order", "other", "thing"], "parting": ["web", "order", "other"],
        "parting_holds": ["web", "order", "other", "thing"], "count_arrows": ["web"], "all_arrows": ["web"],
    },
    "eachinturn.turning": {
        "forward": ["web", "order", "ring"], "moves_to": ["web", "order", "other"],
        "moves_hold": ["web", "order", "other", "thing"], "moved_order": ["web", "order", "moves"],
        "ring_between": ["web", "order", "other"], "ring_between_holds": ["web", "order", "other", "thing"],
        "ring_counts": ["web", "order"], "only_first": ["web", "order", "place"], "count_classes": ["web"],
        "classes": ["web"], "class_arrows": ["web", "order"], "turn_graph": ["web", "order"],
    },
    "eachinturn.carrying": {
        "carried": ["hall", "order", "moves", "state"], "carried_ring": ["hall", "order", "moves", "ring"],
        "ring_match": ["hall", "order", "moves"], "back_moves": ["web", "order", "moves"],
        "match_shift": ["hall", "order", "moves", "state"], "same_lengths": ["hall", "order", "other"],
        "length_table": ["hall"],
    },
    "eachinturn.staying": {
        "stays": ["hall", "state"], "staying": ["hall"], "restless": ["hall", "state"],
        "staying_with": ["hall", "partial"], "days_to_rest": ["hall", "order", "state"], "rests": ["hall", "order"],
        "never_rest": ["hall", "order"], "rest_orders": ["hall", "state", "other"],
    },
    "eachinturn.undoing": {
        "can_be_undone": ["hall"], "undo_paper": ["hall"], "undone_hall": ["hall"],
        "day_before": ["hall", "order", "state"], "far_before": ["hall", "order", "state", "count"],
        "turned_about": ["hall", "order"],
    },
    "eachinturn.weights": {
        "weight": ["hall", "state"], "weights_down": ["hall", "order", "state"], "rest_bound": ["hall"],
        "lightest": ["hall"], "rest_reached": ["hall", "state"], "rest_steps": ["hall", "state", "other"],
        "rest_steps_hold": ["hall", "state", "other", "thing"],
    },
    "eachinturn.adding": {
        "day_matrix": ["hall", "order"], "matrix_power": ["hall", "order", "count"],
        "sum_of": ["hall", "state", "other"], "kernel": ["hall", "order"], "least_round": ["hall", "order"],
    },
    "eachinturn.beside": {
        "beside": ["hall", "other"], "woven_order": ["hall", "other", "order", "second", "turns"],
        "beside_lengths": ["lengths", "others"], "part_of": ["hall", "places"], "split_lengths": ["hall", "order"],
    },
    "eachinturn.samples": {
        "fitting_arrows": ["hall", "samples"], "fits": ["hall", "order", "samples"], "sure_arrows": ["hall", "samples"],
        "asking": ["hall", "orders"], "unlike_state": ["hall", "order", "other"], "like_days": ["hall"],
        "sample_fault": ["hall", "samples"],
    },
    "eachinturn.best": {
        "quickest": ["hall", "state"], "slowest": ["hall", "state"], "longest_ring": ["hall"], "fewest_rings": ["hall"],
        "better_swap": ["hall", "order", "state"], "order_score": ["hall", "order"],
    },
}

# Classes with the arguments of each of their methods, that of the start, too.
CLASSES = {
    "eachinturn.session": {
        "Session": {
            "__init__": ["hall", "order", "state"], "pass_days": ["count"], "turn": [], "exchange": ["index"],
            "put": ["place", "state"], "rule": ["place", "rule"], "undo": [], "hall": [], "order": [], "state": [],
            "days": [], "ring": [], "rested": [], "copy": [], "__eq__": ["other"],
        },
    },
    "eachinturn.desk": {"Desk": {"__init__": [], "say": ["row"], "session": []}},
}

BUILTINS = set(
    "len range enumerate zip min max sum abs sorted reversed int str bool list tuple dict set isinstance ord repr any all"
    " ValueError".split()
)
METHODS = set(
    "append clear copy count endswith extend find get index insert isalnum isalpha isdigit islower isspace isupper items"
    " join keys ljust lower lstrip partition pop remove replace reverse rfind rjust rpartition rsplit rstrip setdefault"
    " split splitlines startswith strip update upper values zfill bit_length add discard".split()
)
BARRED_WORDS = re.compile(r"\b(register|mro|elements|open|input|law|typing|enum|eval|exec|exit|getattr|vars|id|help)\b")


def files():
    return sorted(PACKAGE.rglob("*.py"))


class InterfaceTest(unittest.TestCase):
    def test_functions_stand_in_their_files_with_their_arguments(self):
        for module_name, functions in INTERFACE.items():
            module = importlib.import_module(module_name)
            for name, arguments in functions.items():
                with self.subTest(f"{module_name}.{name}"):
                    function = getattr(module, name)
                    self.assertEqual(function.__module__, module_name)
                    found = inspect.signature(function).parameters.values()
                    self.assertEqual([parameter.name for parameter in found], arguments)
                    self.assertEqual({parameter.kind.name for parameter in found}, {"POSITIONAL_OR_KEYWORD"})
                    self.assertTrue(all(parameter.default is parameter.empty for parameter in found))


    def test_each_function_is_among_the_calls(self):
        called = sorted((function.__module__, function.__name__) for function, _ in CALLS)
        self.assertEqual(called, sorted((module, name) for module, told in INTERFACE.items() for name in told))


    def test_classes_stand_in_their_files_with_their_methods(self):
        for module_name, classes in CLASSES.items():
            module = importlib.import_module(module_name)
            for name, methods in classes.items():
                found = getattr(module, name)
                self.assertEqual((found.__module__, found.__bases__), (module_name, (object,)))
                for method, arguments in methods.items():
                    parameters = list(inspect.signature(vars(found)[method]).parameters.values())[1:]
                    self.assertEqual([parameter.name for parameter in parameters], arguments, method)
                    self.assertTrue(all(parameter.default is parameter.empty for parameter in parameters))
                self.assertEqual({method for method in vars(found) if method[0] != "_"} - set(methods), set())


class FilesTest(unittest.TestCase):
    def test_the_package_holds_python_files_alone(self):
        for path in PACKAGE.rglob("*"):
            if "__pycache__" not in path.parts:
                self.assertTrue(path.is_dir() or path.suffix == ".py", path)
        for folder in [PACKAGE] + [path for path in PACKAGE.rglob("*") if path.is_dir()]:
            if folder.name != "__pycache__":
                self.assertTrue((folder / "__init__.py").is_file(), folder)

    def test_sizes_and_signs(self):
        for path in files():
            data = path.read_bytes()
            self.assertLessEqual({sign for sign in data}, {10} | set(range(32, 127)), path)
            lines = data.decode("ascii").splitlines()
            self.assertLessEqual(len(lines), 399, path)
            for number, line in enumerate(lines, 1):
                self.assertLessEqual(len(line), 120, f"{path}:{number}")

    def test_functions_are_small(self):
        for path in files():
            for node in ast.walk(ast.parse(path.read_text())):
                if isinstance(node, ast.FunctionDef):
                    self.assertLessEqual(node.end_lineno - node.lineno + 1, 40, f"{path}: {node.name}")

    def test_imports_are_of_the_package_alone(self):
        library = {"heapq", "math", "itertools"}
        for path in files():
            for node in ast.walk(ast.parse(path.read_text())):
                self.assertNotIsInstance(node, ast.Import, path)
                if isinstance(node, ast.ImportFrom):
                    self.assertEqual(node.level, 0, path)
                    self.assertTrue(node.module in library or node.module.startswith("eachinturn."), path)


def trees():
    for path in files():
        yield path, ast.parse(path.read_text())


def own_methods():
    """The names of the methods of the package's classes."""
    return {
        node.name for _, tree in trees() for found in tree.body if isinstance(found, ast.ClassDef)
        for node in found.body if isinstance(node, ast.FunctionDef)
    }


def bound_names(tree):
    """Names that functions bind: parameters and targets, those of comprehensions, too."""
    for node in ast.walk(tree):
        if isinstance(node, ast.arg):
            yield node.arg
        if isinstance(node, ast.Name) and not isinstance(node.ctx, ast.Load):
            yield node.id


class LanguageTest(unittest.TestCase):
    """What can be seen at once of ../shared/LANGUAGE.md; the rules there are many more."""

    def test_interface_functions_are_defined_where_they_are_listed(self):
        for module_name, functions in INTERFACE.items():
            path = ROOT / (module_name.replace(".", "/") + ".py")
            found = [node.name for node in ast.parse(path.read_text()).body if isinstance(node, ast.FunctionDef)]
            self.assertLessEqual(set(functions), set(found), path)

    def test_names_that_are_used_and_bound(self):
        for path, tree in trees():
            imports = {alias.name for node in tree.body if isinstance(node, ast.ImportFrom) for alias in node.names}
            defined = [node.name for node in tree.body if isinstance(node, (ast.FunctionDef, ast.ClassDef))]
            classes = {node.name for node in tree.body if isinstance(node, ast.ClassDef)}
            bound = set(bound_names(tree))
            self.assertEqual(len(defined), len(set(defined)), path)
            self.assertFalse(set(defined) & imports, path)
            self.assertFalse(bound & (imports | classes), path)
            self.assertFalse((bound | set(defined)) & set(dir(builtins)), path)
            used = {node.id for node in ast.walk(tree) if isinstance(node, ast.Name) and isinstance(node.ctx, ast.Load)}
            self.assertLessEqual(used - bound - imports - set(defined), BUILTINS, path)
            self.assertLessEqual(imports, used, path)

    def test_what_the_language_has_not(self):
        methods = METHODS | own_methods()
        for path, tree in trees():
            for node in ast.walk(tree):
                self.assertNotIsInstance(
                    node, (ast.Div, ast.GeneratorExp, ast.Lambda, ast.Try, ast.Global, ast.With, ast.Yield), path,
                )
                if isinstance(node, ast.Constant):
                    self.assertNotIsInstance(node.value, (float, complex), path)
                    self.assertNotIn("%", str(node.value), path)
                if isinstance(node, ast.BinOp) and isinstance(node.op, ast.Pow):
                    self.assertIsInstance(node.right, ast.Constant, path)
                if isinstance(node, ast.Compare):
                    for sign, other in zip(node.ops, node.comparators):
                        if isinstance(sign, (ast.Is, ast.IsNot)):
                            self.assertIn(ast.unparse(other), ("None", "True", "False"), path)
                if isinstance(node, ast.Call) and isinstance(node.func, ast.Attribute):
                    self.assertIn(node.func.attr, methods | {"__init__"}, path)
                    self.assertEqual(node.keywords, [], path)
                if isinstance(node, (ast.Name, ast.arg, ast.Attribute, ast.FunctionDef)):
                    word = getattr(node, "id", None) or getattr(node, "arg", None) or getattr(node, "name", None)
                    self.assertIsNone(BARRED_WORDS.fullmatch(word or "x"), path)

    def test_each_function_has_a_use_or_stands_in_the_interface(self):
        listed = {name for functions in INTERFACE.values() for name in functions}
        used = set()
        for _, tree in trees():
            used |= {node.id for node in ast.walk(tree) if isinstance(node, ast.Name)}
        for path, tree in trees():
            for node in tree.body:
                if isinstance(node, ast.FunctionDef):
                    self.assertIn(node.name, used | listed, path)

    def test_each_method_has_a_use_or_stands_in_the_interface(self):
        listed = {method for classes in CLASSES.values() for methods in classes.values() for method in methods}
        called = {
            node.attr for _, tree in trees() for node in ast.walk(tree) if isinstance(node, ast.Attribute)
        }
        self.assertLessEqual(own_methods(), listed | called)

    def test_attributes_and_methods_have_names_of_their_own(self):
        for path, tree in trees():
            for found in [node for node in tree.body if isinstance(node, ast.ClassDef)]:
                methods = {node.name for node in found.body if isinstance(node, ast.FunctionDef)}
                stored = {
                    node.attr for node in ast.walk(found)
                    if isinstance(node, ast.Attribute) and isinstance(node.ctx, ast.Store)
                }
                self.assertFalse(methods & stored, path)

    def test_no_two_files_import_from_each_other(self):
        needs = {}
        for path, tree in trees():
            name = "eachinturn." + path.stem
            needs[name] = {node.module for node in tree.body if isinstance(node, ast.ImportFrom)}
        while needs:
            free = [name for name, wanted in needs.items() if not wanted & set(needs)]
            self.assertTrue(free, needs)
            for name in free:
                del needs[name]

    def test_the_files_import_in_any_sequence(self):
        names = ["eachinturn." + path.stem for path in files() if path.stem != "__init__"]
        self.assertEqual(set(names) - set(INTERFACE) - set(CLASSES), {
            "eachinturn.errors", "eachinturn.rules", "eachinturn.steps", "eachinturn.orders",
        })
        chance = random.Random(5)
        for some in [names[at:] + names[:at] for at in range(len(names))] + [
            chance.sample(names, len(names)) for _ in range(5)
        ]:
            # in a Python of its own, where no file is imported yet
            rows = "; ".join(f"import {name}" for name in some)
            done = subprocess.run([sys.executable, "-B", "-c", rows], cwd=ROOT, capture_output=True, text=True)
            self.assertEqual((done.returncode, done.stderr), (0, ""), some)

    def test_loops_do_not_change_what_they_go_over(self):
        for path, tree in trees():
            for loop in ast.walk(tree):
                if isinstance(loop, ast.For):
                    over = {node.id for node in ast.walk(loop.iter) if isinstance(node, ast.Name)}
                    for node in ast.walk(ast.Module(body=loop.body, type_ignores=[])):
                        changed = None
                        if isinstance(node, ast.Call) and isinstance(node.func, ast.Attribute):
                            if node.func.attr in ("append", "extend", "pop", "insert", "remove", "clear", "reverse"):
                                changed = ast.unparse(node.func.value)
                        self.assertNotIn(changed, over, f"{path}:{loop.lineno}")


if __name__ == "__main__":
    unittest.main()
