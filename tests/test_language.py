"""The rules of LANGUAGE.md that can be asked of the text of the files: L1, L2, L4, L6, L7, L8, L10, L14 and L25."""

import ast
import builtins
import pathlib
import unittest

import drawnrings
from tests.leaving import Leaving, leaving_of

FOLDER = pathlib.Path(drawnrings.__file__).parent

BUILTINS = set(
    "len range enumerate zip min max sum abs sorted reversed int str bool bytes list tuple dict set frozenset "
    "isinstance ord repr any all divmod pow iter next getattr hasattr setattr type map property staticmethod "
    "classmethod super Exception ValueError TypeError KeyError IndexError LookupError ZeroDivisionError "
    "ArithmeticError OverflowError RuntimeError NotImplementedError AttributeError StopIteration "
    "NotImplemented".split(" ")
)

METHODS = set(
    "append clear copy count endswith extend find get index insert isalnum isalpha isdigit islower isspace isupper "
    "items join keys ljust lower lstrip partition pop remove replace reverse rfind rjust rpartition rsplit rstrip "
    "setdefault split splitlines startswith strip update upper values zfill bit_length title capitalize swapcase "
    "casefold center expandtabs removeprefix removesuffix rindex isascii isdecimal isnumeric istitle isidentifier "
    "isprintable translate maketrans encode decode hex add discard sort format popleft appendleft extendleft "
    "rotate from_iterable".split(" ")
)

LIBRARY = ("__future__", "collections", "heapq", "itertools", "math")

DECORATORS = ("property", "staticmethod", "classmethod")


def files():
    return sorted(path for path in FOLDER.rglob("*") if path.is_file() and "__pycache__" not in path.parts)


def sources():
    return [(path.name, path.read_text(encoding="utf-8")) for path in files()]


def trees():
    return [(name, list(ast.walk(ast.parse(text)))) for name, text in sources()]


def functions(nodes):
    return [node for node in nodes if isinstance(node, ast.FunctionDef)]


def is_plain(node, properties):
    """Whether this is a name, an attribute off a name that is no property, a literal, or a row of such."""
    if isinstance(node, (ast.Name, ast.Constant)):
        return True
    if isinstance(node, ast.Attribute):
        return isinstance(node.value, ast.Name) and node.attr not in properties
    if isinstance(node, (ast.List, ast.Tuple)):
        return all(is_plain(told, properties) for told in node.elts)
    if isinstance(node, ast.Dict):
        return all(told is not None and is_plain(told, properties) for told in [*node.keys, *node.values])
    return False


class Language(unittest.TestCase):
    def test_only_python_files_with_plain_names(self):
        self.assertTrue((FOLDER / "__init__.py").is_file())
        for path in files():
            with self.subTest(path.name):
                self.assertEqual(path.suffix, ".py")
                self.assertRegex(path.stem, r"\A[a-z0-9_]+\Z")

    def test_sizes(self):
        for name, text in sources():
            with self.subTest(name):
                self.assertLessEqual(len(text.splitlines()), 399)
                self.assertLessEqual(max([len(line) for line in text.splitlines()], default=0), 120)
        for name, nodes in trees():
            for node in functions(nodes):
                with self.subTest(name, function=node.name):
                    self.assertLessEqual(node.end_lineno - node.lineno + 1, 40)

    def test_characters(self):
        for name, text in sources():
            with self.subTest(name):
                self.assertEqual([sign for sign in text if sign != "\n" and not " " <= sign <= "~"], [])

    def test_imports(self):
        for name, nodes in trees():
            for node in nodes:
                if isinstance(node, ast.Import):
                    self.assertEqual((name, [row.name for row in node.names]), ("__main__.py", ["sys"]))
                if isinstance(node, ast.ImportFrom):
                    with self.subTest(name, module=node.module):
                        self.assertEqual(node.level, 0)
                        self.assertTrue(node.module in LIBRARY or node.module.startswith("drawnrings."))
                        self.assertNotIn("*", [row.name for row in node.names])

    def test_no_floats_and_no_statements_that_are_not_allowed(self):
        barred = (ast.AsyncFunctionDef, ast.Await, ast.Div)
        for name, nodes in trees():
            with self.subTest(name):
                self.assertEqual([node for node in nodes if isinstance(node, barred)], [])
                literals = [node.value for node in nodes if isinstance(node, ast.Constant)]
                self.assertEqual([value for value in literals if isinstance(value, (float, complex))], [])

    def test_builtins(self):
        for name, nodes in trees():
            if name == "__main__.py":
                continue
            used = {node.id for node in nodes if isinstance(node, ast.Name)} & set(dir(builtins))
            with self.subTest(name):
                self.assertEqual(sorted(used - BUILTINS), [])

    def test_decorators(self):
        for name, nodes in trees():
            for node in functions(nodes):
                for decorator in node.decorator_list:
                    with self.subTest(name, function=node.name):
                        setter = isinstance(decorator, ast.Attribute) and decorator.attr == "setter"
                        self.assertTrue(setter or decorator.id in DECORATORS)

    def test_stars_in_calls(self):
        """L7: behind a star, and beside `**`, only names, attributes off a name, literals, and rows of these."""
        properties = {
            node.name for _, nodes in trees() for node in functions(nodes)
            if "property" in [getattr(decorator, "id", "") for decorator in node.decorator_list]
        }
        for name, nodes in trees():
            for node in [node for node in nodes if isinstance(node, ast.Call)]:
                told = [row.value for row in node.args if isinstance(row, ast.Starred)]
                pairs = [row.value for row in node.keywords if row.arg is None]
                if pairs:
                    told += [*pairs, *[row for row in node.args if not isinstance(row, ast.Starred)]]
                with self.subTest(name, line=node.lineno):
                    self.assertTrue(all(is_plain(value, properties) for value in told))
                    self.assertTrue(not pairs or len(node.keywords) == 1)

    def test_leaving_a_with_statement(self):
        """L6 With: the rows of each `__exit__`, and of the methods that it calls, are such as may stand there."""
        found = []
        for name, nodes in trees():
            for shape in [node for node in nodes if isinstance(node, ast.ClassDef)]:
                leaving = Leaving(shape)
                found += [name] if leaving.methods else []
                with self.subTest(name, shape=shape.name):
                    self.assertEqual(leaving.wrong(), [])
        self.assertEqual(found, ["desks.py"])

    def test_what_may_not_stand_where_a_with_statement_is_left(self):
        for row in (
            "pass", "return", "return None", "return False", "self.a = 0", "self.a = self.b", "self.a = (self.b, 'x')",
            "self.a = [self.b + 1]", "self.a = self.b - 1", "self.a -= 1", "self.a += 1", "self.a += 'x'",
            "self.rows.append(self.b)", "self.rows.clear()", "net = self.net\nnet.a = self.b", "net = self.net",
            "net = self.net\nnet.append(1)", "if kind is None:\n pass", "if kind is not None:\n self.a = self.b",
            "if kind is None and not (kind is None or kind is not None):\n self.a = 0\nelse:\n pass", "self.shut()",
        ):
            with self.subTest(row):
                self.assertEqual(leaving_of(row).wrong(), [])
        for row in (
            "net = self.net\nentry = self.entry", "net = self.net\nself.a = net.b", "net = self.net.a", "a = 1",
            "self.a = self.rows[0]", "self.a = self.rows.pop()", "self.rows.pop()", "self.a = -1", "self.a = value",
            "self.rows[0] = 1", "del self.rows[0]", "self.a -= self.b", "self.a = self.b - self.c", "self.a = kind",
            "self.a = not self.b", "self.a = self.b = 0", "self.a, self.b = 0, 0", "return True", "return self.a",
            "raise kind", "self.net.leave()", "leave()", "self.rows.append(value)", "self.a = f'{self.b}'",
            "if kind:\n pass", "if value is None:\n pass", "if self.a == 0:\n pass", "if kind is self.a:\n pass",
            "if self.leave():\n pass", "for a in self.rows:\n pass", "while self.a:\n pass", "self.a: int = 0",
            "self.open()", "self.shut(1)", "if self.a:\n pass", "if not self.a:\n pass",
            "if kind is None or value:\n pass",
        ):
            with self.subTest(row):
                self.assertNotEqual(leaving_of(row).wrong(), [])
        # The rows of a method that is called count as those of __exit__.
        self.assertEqual(leaving_of("net = self.net\nself.shut()", "net.a = 0").wrong(), [])
        self.assertNotEqual(leaving_of("self.shut()", "entry = self.entry\nself.a = entry.b").wrong(), [])
        self.assertNotEqual(leaving_of("net = self.net\nself.shut()", "entry = self.entry").wrong(), [])

    def test_methods_that_are_called(self):
        own = {node.name for _, nodes in trees() for node in functions(nodes)}
        stored = {
            node.attr for _, nodes in trees() for node in nodes
            if isinstance(node, ast.Attribute) and isinstance(node.ctx, ast.Store)
        }
        for name, nodes in trees():
            if name == "__main__.py":
                continue
            for node in nodes:
                if isinstance(node, ast.Call) and isinstance(node.func, ast.Attribute):
                    with self.subTest(name, method=node.func.attr):
                        self.assertIn(node.func.attr, METHODS | own | stored)


if __name__ == "__main__":
    unittest.main()
