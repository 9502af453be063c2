"""The package keeps to the small part of the language; what can be seen by a plain look is looked at here."""

import ast
import builtins
import pathlib
import re
import unittest

FOLDER = pathlib.Path(__file__).resolve().parent.parent / "roundsalone"
OWN_NAMES = set("""len range enumerate zip min max sum abs sorted reversed int str bool bytes list tuple dict set
    frozenset isinstance ord repr any all divmod Exception ValueError TypeError KeyError IndexError LookupError
    ZeroDivisionError ArithmeticError OverflowError RuntimeError NotImplementedError AttributeError
    StopIteration""".split())
METHODS = set("""append clear copy count endswith extend find get index insert isalnum isalpha isdigit islower isspace
    isupper items join keys ljust lower lstrip partition pop remove replace reverse rfind rjust rpartition rsplit
    rstrip setdefault split splitlines startswith strip update upper values zfill bit_length add discard
    sort""".split())
WORDS = set("""type typing typing_extensions enum Enum IntEnum StrEnum Flag IntFlag Generic Protocol ABC ABCMeta
    namedtuple NamedTuple TypedDict TYPE_CHECKING abstractmethod register mro elements open input""".split())
PARTS_OF_WORDS = ("dataclass", "overload", "contextmanager")
OUT = (ast.GeneratorExp, ast.With, ast.Match, ast.Global, ast.Nonlocal, ast.Yield, ast.YieldFrom, ast.Await,
       ast.AsyncFunctionDef, ast.AsyncFor, ast.AsyncWith, ast.NamedExpr, ast.Div, ast.Import)


def files():
    return sorted(FOLDER.glob("*.py"))


def all_nodes():
    for path in files():
        for node in ast.walk(ast.parse(path.read_text())):
            yield f"{path.name}:{getattr(node, 'lineno', 0)}", node


def bound_names(node):
    """The names that a node of a tree binds."""
    if isinstance(node, ast.Name) and not isinstance(node.ctx, ast.Load):
        return [node.id]
    if isinstance(node, ast.arg):
        return [node.arg]
    if isinstance(node, (ast.FunctionDef, ast.ClassDef)):
        return [node.name]
    return []


class Form(unittest.TestCase):

    def test_files_alone_and_no_other(self):
        for path in FOLDER.iterdir():
            if path.name != "__pycache__":
                self.assertRegex(path.name, r"^([a-z][a-z0-9_]*|__init__|__main__)\.py$")

    def test_signs_and_sizes(self):
        for path in files():
            text = path.read_bytes().decode("ascii")
            self.assertIsNone(re.search(r"[^ -~\n]", text), path.name)
            self.assertLessEqual(len(text.splitlines()), 400, path.name)
            self.assertLessEqual(max(len(line) for line in text.splitlines()), 120, path.name)

    def test_defs_are_short_and_plain(self):
        for where, node in all_nodes():
            if isinstance(node, ast.FunctionDef):
                self.assertLessEqual(node.end_lineno - node.lineno + 1, 40, where)
                self.assertEqual(node.decorator_list, [], where)
                self.assertIsNone(node.args.vararg, where)
                self.assertIsNone(node.args.kwarg, where)

    def test_words_that_stand_nowhere(self):
        for path in files():
            text = path.read_text()
            self.assertEqual(sorted(set(re.findall(r"\w+", text)) & WORDS), [], path.name)
            for word in PARTS_OF_WORDS:
                self.assertNotIn(word, text, path.name)

    def test_what_is_out_of_the_language(self):
        for where, node in all_nodes():
            self.assertNotIsInstance(node, OUT, where)
            if isinstance(node, ast.Constant):
                self.assertNotIsInstance(node.value, (float, complex), where)
            if isinstance(node, (ast.For, ast.While)):
                self.assertEqual(node.orelse, [], where)
            if isinstance(node, ast.Compare):
                for sign, right in zip(node.ops, node.comparators):
                    if isinstance(sign, (ast.Is, ast.IsNot)):
                        self.assertIn(getattr(right, "value", 0), (None, True, False), where)

    def test_imports_are_the_packages_own(self):
        for where, node in all_nodes():
            if isinstance(node, ast.ImportFrom):
                self.assertEqual(node.level, 0, where)
                self.assertRegex(node.module, r"^roundsalone\.[a-z]+$", where)
                self.assertTrue((FOLDER / (node.module.split(".")[1] + ".py")).exists(), where)
                self.assertNotIn("*", [alias.name for alias in node.names], where)

    def test_names_of_pythons_own(self):
        for where, node in all_nodes():
            if isinstance(node, ast.Name) and hasattr(builtins, node.id):
                self.assertIn(node.id, OWN_NAMES, where)
            for name in bound_names(node):
                self.assertRegex(name, r"^([A-Za-z]\w*|__(init|eq|repr|str|len)__)$", where)
                self.assertFalse(hasattr(builtins, name) and name[0] != "_", (where, name))

    def test_no_local_is_called_like_an_import_or_a_class(self):
        for path in files():
            tree = ast.parse(path.read_text())
            drawn = [alias.name for node in tree.body if isinstance(node, ast.ImportFrom) for alias in node.names]
            taken = set(drawn) | {node.name for node in tree.body if isinstance(node, ast.ClassDef)}
            for node in ast.walk(tree):
                if not isinstance(node, ast.ClassDef):
                    self.assertFalse(taken & set(bound_names(node)), (path.name, getattr(node, "lineno", 0)))

    def test_no_name_is_a_method_and_a_value(self):
        methods, values = set(), set()
        for where, node in all_nodes():
            if isinstance(node, ast.ClassDef):
                methods |= {part.name for part in node.body if isinstance(part, ast.FunctionDef)}
            if isinstance(node, ast.Attribute) and isinstance(node.ctx, ast.Store):
                values.add(node.attr)
        self.assertFalse(methods & values)

    def test_methods(self):
        own = {node.name for where, node in all_nodes() if isinstance(node, ast.FunctionDef)}
        for where, node in all_nodes():
            if isinstance(node, ast.Call) and isinstance(node.func, ast.Attribute):
                self.assertIn(node.func.attr, METHODS | own, where)


if __name__ == "__main__":
    unittest.main()
