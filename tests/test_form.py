"""The rules of form that can be seen in the package's files."""

import ast
import builtins
import pathlib
import re
import unittest

ROOT = pathlib.Path(__file__).resolve().parent.parent
PACKAGE = ROOT / "turnscript"
WORDS_NOT_USED = (
    "type typing typing_extensions enum Enum IntEnum StrEnum Flag IntFlag Generic Protocol ABC ABCMeta "
    "namedtuple NamedTuple TypedDict TYPE_CHECKING abstractmethod"
).split()
STATEMENTS = (
    ast.Assign, ast.AugAssign, ast.If, ast.While, ast.For, ast.Return, ast.Break, ast.Continue, ast.Pass,
    ast.Raise, ast.Try, ast.Expr, ast.FunctionDef, ast.ClassDef, ast.ImportFrom,
)


class Form(unittest.TestCase):
    def setUp(self):
        self.files = sorted(PACKAGE.rglob("*.py"))
        self.trees = {path: ast.parse(path.read_text("utf-8")) for path in self.files}

    def nodes(self, *kinds):
        for path, tree in self.trees.items():
            for node in ast.walk(tree):
                if isinstance(node, kinds):
                    yield path.name, node

    def test_the_package_holds_its_modules_alone(self):
        found = [p for p in PACKAGE.rglob("*") if p.is_file() and "__pycache__" not in p.parts]
        self.assertEqual(sorted(found), self.files)
        self.assertIn(PACKAGE / "__init__.py", self.files)

    def test_signs_and_sizes(self):
        for path in self.files:
            rows = path.read_text("utf-8").split("\n")
            self.assertLessEqual(len(rows), 400, path.name)
            for row in rows:
                self.assertRegex(row, r"\A[ -~]{0,120}\Z", path.name)

    def test_functions_are_small(self):
        for name, node in self.nodes(ast.FunctionDef):
            self.assertLessEqual(node.end_lineno - node.lineno + 1, 40, (name, node.name))

    def test_words_that_are_not_used(self):
        for path in self.files:
            words = set(re.findall(r"\w+", path.read_text("utf-8")))
            self.assertEqual(words & set(WORDS_NOT_USED), set(), path.name)

    def test_imports_are_the_packages_own(self):
        for name, node in self.nodes(ast.Import, ast.ImportFrom):
            self.assertIsInstance(node, ast.ImportFrom, name)
            self.assertEqual((node.level, node.module.split(".")[0]), (0, "turnscript"), name)

    def test_statements(self):
        for name, node in self.nodes(ast.stmt):
            self.assertIsInstance(node, STATEMENTS, (name, node.lineno))

    def test_names_are_plain(self):
        for name, node in self.nodes(ast.Name, ast.arg, ast.FunctionDef, ast.ClassDef):
            word = getattr(node, "id", None) or getattr(node, "arg", None) or node.name
            self.assertRegex(word, r"\A([A-Za-z]\w*|__init__)\Z", name)

    def test_parameters_and_locals_are_not_called_like_imports_classes_or_pythons_own(self):
        for path, tree in self.trees.items():
            taken = set(dir(builtins))
            for row in tree.body:
                if isinstance(row, ast.ImportFrom):
                    taken.update(alias.asname or alias.name for alias in row.names)
                elif isinstance(row, ast.ClassDef):
                    taken.add(row.name)
            for node in ast.walk(tree):
                if isinstance(node, ast.arg):
                    self.assertNotIn(node.arg, taken, path.name)
                elif isinstance(node, ast.Name) and isinstance(node.ctx, ast.Store):
                    self.assertNotIn(node.id, taken, path.name)

    def test_each_name_is_drawn_from_the_file_that_defines_it(self):
        defined = {}
        for path, tree in self.trees.items():
            found = [row.name for row in tree.body if isinstance(row, (ast.FunctionDef, ast.ClassDef))]
            defined["turnscript." + path.stem] = found
        for name, node in self.nodes(ast.ImportFrom):
            for alias in node.names:
                self.assertIn(alias.name, defined[node.module], name)

    def test_no_two_files_draw_from_one_another(self):
        left = {"turnscript." + path.stem: {row.module for row in tree.body if isinstance(row, ast.ImportFrom)}
                for path, tree in self.trees.items()}
        while left:
            ready = [name for name, drawn in left.items() if not drawn & set(left)]
            self.assertTrue(ready, left)
            for name in ready:
                del left[name]


if __name__ == "__main__":
    unittest.main()
