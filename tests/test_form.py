"""The interface as the document lists it, and the plain rules for the files of the package."""

import ast
import importlib
import inspect
import pathlib
import unittest

ROOT = pathlib.Path(__file__).resolve().parent.parent
PACKAGE = ROOT / "eachinturn"

INTERFACE = {
    "eachinturn.halls": {
        "is_web": ["thing"], "neighbours": ["web", "place"], "pieces": ["web"], "is_forest": ["web"],
        "is_hall": ["thing"], "table_of": ["hall", "place"], "with_tables": ["hall"], "states_of": ["hall"],
        "number_of": ["hall", "state"],
    },
    "eachinturn.rows": {"write_hall": ["hall"], "read_hall": ["text"]},
}


def files():
    return sorted(PACKAGE.rglob("*.py"))


class InterfaceTest(unittest.TestCase):
    def test_functions_stand_in_their_files_with_their_arguments(self):
        for module_name, functions in INTERFACE.items():
            module = importlib.import_module(module_name)
            for name, arguments in functions.items():
                with self.subTest(f"{module_name}.{name}"):
                    function = getattr(module, name)
                    self.assertEqual(function.__module__, module_name)
                    found = inspect.signature(function).parameters.values()
                    self.assertEqual([parameter.name for parameter in found], arguments)
                    self.assertEqual({parameter.kind.name for parameter in found}, {"POSITIONAL_OR_KEYWORD"})
                    self.assertTrue(all(parameter.default is parameter.empty for parameter in found))


class FilesTest(unittest.TestCase):
    def test_the_package_holds_python_files_alone(self):
        for path in PACKAGE.rglob("*"):
            if "__pycache__" not in path.parts:
                self.assertTrue(path.is_dir() or path.suffix == ".py", path)
        for folder in [PACKAGE] + [path for path in PACKAGE.rglob("*") if path.is_dir()]:
            if folder.name != "__pycache__":
                self.assertTrue((folder / "__init__.py").is_file(), folder)

    def test_sizes_and_signs(self):
        for path in files():
            data = path.read_bytes()
            self.assertLessEqual({sign for sign in data}, {10} | set(range(32, 127)), path)
            lines = data.decode("ascii").splitlines()
            self.assertLessEqual(len(lines), 399, path)
            for number, line in enumerate(lines, 1):
                self.assertLessEqual(len(line), 120, f"{path}:{number}")

    def test_functions_are_small(self):
        for path in files():
            for node in ast.walk(ast.parse(path.read_text())):
                if isinstance(node, ast.FunctionDef):
                    self.assertLessEqual(node.end_lineno - node.lineno + 1, 40, f"{path}: {node.name}")

    def test_imports_are_of_the_package_alone(self):
        library = {"heapq", "math", "itertools"}
        for path in files():
            for node in ast.walk(ast.parse(path.read_text())):
                self.assertNotIsInstance(node, ast.Import, path)
                if isinstance(node, ast.ImportFrom):
                    self.assertEqual(node.level, 0, path)
                    self.assertTrue(node.module in library or node.module.startswith("eachinturn."), path)


if __name__ == "__main__":
    unittest.main()
