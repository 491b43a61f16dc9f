"""The package keeps to shared/LANGUAGE.md, as far as a short reading of its files can tell."""

import ast
import builtins
import pathlib
import re
import unittest

PACKAGE = pathlib.Path(__file__).resolve().parent.parent / "roundsteps"
FILES = sorted(PACKAGE.glob("*.py"))
BARRED_WORDS = (
    "type", "typing", "typing_extensions", "enum", "Enum", "IntEnum", "StrEnum", "Flag", "IntFlag", "Generic",
    "Protocol", "ABC", "ABCMeta", "namedtuple", "NamedTuple", "TypedDict", "TYPE_CHECKING", "abstractmethod",
)
BARRED_PARTS = ("dataclass", "overload", "contextmanager")
BUILTINS = {
    "len", "range", "enumerate", "zip", "min", "max", "sum", "abs", "sorted", "reversed", "int", "str", "bool",
    "bytes", "list", "tuple", "dict", "set", "isinstance", "ord", "repr", "any", "all", "divmod", "ValueError",
    "KeyError", "IndexError", "TypeError",
}


def nodes(file, kind):
    """The nodes of one kind in a file."""
    return [node for node in ast.walk(ast.parse(file.read_text())) if isinstance(node, kind)]


def module_level_names(file):
    """The names that are assigned at module level."""
    assigned = [node for node in ast.parse(file.read_text()).body if isinstance(node, ast.Assign)]
    return [target for node in assigned for target in node.targets]


class Language(unittest.TestCase):
    def test_the_folder_holds_nothing_else(self):
        names = [path.name for path in PACKAGE.iterdir() if path.name != "__pycache__"]
        self.assertEqual(sorted(names), [file.name for file in FILES])
        for name in names:
            self.assertRegex(name, r"\A[a-z0-9_]+\.py\Z")

    def test_size_and_characters(self):
        for file in FILES:
            with self.subTest(file.name):
                text = file.read_text()
                lines = text.split("\n")
                self.assertRegex(text, r"\A[ -~\n]*\Z")
                self.assertLessEqual(len(lines), 400)
                self.assertLessEqual(max(len(line) for line in lines), 120)
                for function in nodes(file, ast.FunctionDef):
                    self.assertLessEqual(function.end_lineno - function.lineno + 1, 40, function.name)

    def test_imports_are_of_the_package_only(self):
        # So no clock, chance or file can be used, either.
        for file in FILES:
            with self.subTest(file.name):
                self.assertEqual(nodes(file, ast.Import), [])
                for node in nodes(file, ast.ImportFrom):
                    self.assertTrue(node.level == 0 and node.module.startswith("roundsteps."))
                    self.assertNotIn("*", [name.name for name in node.names])

    def test_barred_words(self):
        for file in FILES:
            with self.subTest(file.name):
                words = set(re.findall(r"\w+", file.read_text()))
                self.assertEqual(words & set(BARRED_WORDS), set())
                self.assertEqual([part for part in BARRED_PARTS if part in file.read_text()], [])

    def test_barred_forms(self):
        barred = (ast.Global, ast.AsyncFunctionDef, ast.Await, ast.Div)
        for file in FILES:
            with self.subTest(file.name):
                self.assertEqual(nodes(file, barred), [])
                self.assertEqual([node for node in nodes(file, ast.Constant) if isinstance(node.value, float)], [])
                for node in nodes(file, ast.Constant):
                    self.assertFalse(isinstance(node.value, str) and "%" in node.value)
                for node in nodes(file, ast.Compare):
                    for sign, side in zip(node.ops, node.comparators):
                        if isinstance(sign, (ast.Is, ast.IsNot)):
                            self.assertIsInstance(side, ast.Constant)

    def test_names(self):
        for file in FILES:
            with self.subTest(file.name):
                stored = {node.id for node in nodes(file, ast.Name) if isinstance(node.ctx, ast.Store)}
                stored |= {node.arg for node in nodes(file, ast.arg)}
                stored |= {node.name for node in nodes(file, (ast.FunctionDef, ast.ClassDef))} - {"__init__"}
                self.assertEqual([name for name in stored if name.startswith("_")], [])
                self.assertEqual(stored & set(dir(builtins)), set())

    def test_builtins(self):
        for file in FILES:
            with self.subTest(file.name):
                bound = {node.id for node in nodes(file, ast.Name) if isinstance(node.ctx, ast.Store)}
                bound |= {node.arg for node in nodes(file, ast.arg)}
                bound |= {node.name for node in nodes(file, (ast.FunctionDef, ast.ClassDef))}
                bound |= {name.name for node in nodes(file, ast.ImportFrom) for name in node.names}
                read = {node.id for node in nodes(file, ast.Name) if isinstance(node.ctx, ast.Load)}
                self.assertEqual(read - bound - BUILTINS, set())

    def test_no_local_name_is_that_of_an_import_or_a_class(self):
        for file in FILES:
            with self.subTest(file.name):
                taken = {name.asname or name.name for node in nodes(file, ast.ImportFrom) for name in node.names}
                taken |= {node.name for node in nodes(file, ast.ClassDef)}
                stored = {node.id for node in nodes(file, ast.Name) if isinstance(node.ctx, ast.Store)}
                stored |= {node.arg for node in nodes(file, ast.arg)}
                self.assertEqual(stored & taken, set())

    def test_each_name_is_bound_once_and_imported_from_where_it_is_defined(self):
        bound = {}
        for file in FILES:
            names = [node.name for node in ast.parse(file.read_text()).body if hasattr(node, "name")]
            names += [node.id for node in module_level_names(file)]
            bound["roundsteps." + file.stem] = names
            imported = [name.name for node in nodes(file, ast.ImportFrom) for name in node.names]
            self.assertEqual(len(names + imported), len(set(names + imported)), file.name)
        for file in FILES:
            for node in nodes(file, ast.ImportFrom):
                self.assertEqual([name.name for name in node.names if name.name not in bound[node.module]], [])

    def test_no_two_files_import_from_each_other(self):
        needs = {}
        for file in FILES:
            needs["roundsteps." + file.stem] = {node.module for node in nodes(file, ast.ImportFrom)}
        while needs:
            free = [name for name in needs if not needs[name] & set(needs)]
            self.assertNotEqual(free, [], needs)
            for name in free:
                del needs[name]

    def test_no_name_is_a_method_here_and_an_attribute_there(self):
        methods, attributes = set(), set()
        for file in FILES:
            for kind in nodes(file, ast.ClassDef):
                methods |= {node.name for node in kind.body if isinstance(node, ast.FunctionDef)}
            attributes |= {node.attr for node in nodes(file, ast.Attribute) if isinstance(node.ctx, ast.Store)}
        self.assertEqual(methods & attributes, set())


if __name__ == "__main__":
    unittest.main()
