"""The package keeps to its part of Python, as far as the files themselves show it."""

import ast
import pathlib
import re
import unittest

ROOT = pathlib.Path(__file__).resolve().parent.parent
FILES = sorted((ROOT / "knownwhendesk").rglob("*.py"))

STATEMENTS = (ast.Assign, ast.AugAssign, ast.If, ast.While, ast.For, ast.Return, ast.Break, ast.Continue, ast.Pass,
              ast.Raise, ast.Try, ast.Expr, ast.FunctionDef, ast.ClassDef, ast.ImportFrom)
NOT_USED = (ast.Starred, ast.SetComp, ast.DictComp, ast.GeneratorExp, ast.NamedExpr, ast.Div, ast.Yield, ast.Await)
OWN_OF_PYTHON = ("len range enumerate zip min max sum abs sorted reversed int str bool list tuple dict set frozenset "
                 "isinstance ord repr any all divmod").split()
METHODS = ("append clear copy count endswith extend find get index insert isalnum isalpha isdigit islower isspace "
           "isupper items join keys ljust lower lstrip partition pop remove replace reverse rfind rjust rpartition "
           "rsplit rstrip setdefault split splitlines startswith strip update upper values zfill bit_length").split()
WORDS = ("type typing typing_extensions enum Enum IntEnum StrEnum Flag IntFlag Generic Protocol ABC ABCMeta namedtuple "
         "NamedTuple TypedDict TYPE_CHECKING abstractmethod register mro elements open input version_info").split()


def trees():
    return [(path, ast.parse(path.read_text())) for path in FILES]


def nodes():
    return [(path.name, node) for path, tree in trees() for node in ast.walk(tree)]


def bound_in(tree):
    """Every name that the file gives something to, brings in or defines."""
    names = set()
    for node in ast.walk(tree):
        if isinstance(node, ast.Name) and isinstance(node.ctx, ast.Store):
            names.add(node.id)
        elif isinstance(node, ast.arg):
            names.add(node.arg)
        elif isinstance(node, (ast.FunctionDef, ast.ClassDef)):
            names.add(node.name)
        elif isinstance(node, ast.alias):
            names.add(node.name)
    return names


class Language(unittest.TestCase):
    def test_nothing_but_python_files_in_the_package(self):
        others = [path.name for path in (ROOT / "knownwhendesk").iterdir()
                  if path.suffix != ".py" and path.name != "__pycache__"]
        self.assertEqual(others, [])

    def test_signs_lengths_and_words(self):
        for path in FILES:
            text = path.read_text()
            self.assertIsNone(re.search(r"[^ -~\n]", text), path.name)
            self.assertLessEqual(len(text.splitlines()), 400, path.name)
            self.assertLessEqual(max(len(row) for row in text.splitlines()), 120, path.name)
            self.assertEqual(sorted(set(re.findall(r"\w+", text)) & set(WORDS)), [], path.name)

    def test_functions_have_at_most_40_lines(self):
        for name, node in nodes():
            if isinstance(node, ast.FunctionDef):
                self.assertLessEqual(node.end_lineno - node.lineno + 1, 40, (name, node.name))
                self.assertEqual(node.decorator_list, [], (name, node.name))

    def test_statements_and_expressions(self):
        for name, node in nodes():
            if isinstance(node, ast.stmt):
                self.assertIsInstance(node, STATEMENTS, (name, getattr(node, "lineno", 0)))
            self.assertNotIsInstance(node, NOT_USED, (name, getattr(node, "lineno", 0)))
            if isinstance(node, ast.Assign):
                self.assertEqual(len(node.targets), 1, (name, node.lineno))
            if isinstance(node, (ast.For, ast.While)):
                self.assertEqual(node.orelse, [], (name, node.lineno))
            if isinstance(node, ast.Constant):
                self.assertIn(type(node.value), (int, str, bool, type(None)), (name, node.lineno))

    def test_imports_are_the_packages_own(self):
        for path, tree in trees():
            for node in ast.walk(tree):
                if isinstance(node, ast.ImportFrom):
                    self.assertIn(node, tree.body, path.name)
                    source = ROOT.joinpath(*node.module.split(".")).with_suffix(".py")
                    self.assertEqual(node.level, 0, path.name)
                    self.assertIn(source, FILES, path.name)
                    for alias in node.names:
                        self.assertRegex(source.read_text(), rf"(?m)^(def |class )?{alias.name}\b", path.name)

    def test_names_are_its_own_or_those_of_python_that_are_listed(self):
        for path, tree in trees():
            bound = bound_in(tree)
            self.assertEqual(sorted(bound & set(OWN_OF_PYTHON)), [], path.name)
            for node in ast.walk(tree):
                if isinstance(node, ast.Name):
                    self.assertIn(node.id, bound | set(OWN_OF_PYTHON), (path.name, node.lineno))

    def test_no_local_is_called_like_a_class_or_an_import(self):
        for path, tree in trees():
            taken = {alias.name for node in tree.body if isinstance(node, ast.ImportFrom) for alias in node.names}
            taken |= {node.name for node in tree.body if isinstance(node, (ast.ClassDef, ast.FunctionDef))}
            for node in ast.walk(tree):
                if isinstance(node, ast.arg):
                    self.assertNotIn(node.arg, taken, (path.name, node.lineno))
                if isinstance(node, ast.Name) and isinstance(node.ctx, ast.Store):
                    self.assertNotIn(node.id, taken, (path.name, node.lineno))

    def test_methods_and_values_of_objects(self):
        methods = {part.name for name, node in nodes() if isinstance(node, ast.ClassDef)
                   for part in node.body if isinstance(part, ast.FunctionDef)}
        kept = {node.attr for name, node in nodes()
                if isinstance(node, ast.Attribute) and isinstance(node.ctx, ast.Store)}
        self.assertEqual(sorted(methods & kept), [])
        for name, node in nodes():
            if isinstance(node, ast.Attribute):
                self.assertIn(node.attr, methods | kept | set(METHODS), (name, node.lineno))


if __name__ == "__main__":
    unittest.main()
