"""The package keeps to what of the subset's rules a short look can see."""

import ast
import builtins
import os
import unittest

FOLDER = os.path.join(os.path.dirname(os.path.abspath(__file__)), "..", "reachbook")

LIBRARY = {
    "heapq": ["heappush", "heappop", "heapify", "heapreplace", "heappushpop"],
    "math": ["gcd", "lcm", "isqrt", "comb", "perm", "factorial"],
    "itertools": ["product", "combinations", "permutations", "chain", "accumulate",
                  "pairwise", "islice", "zip_longest"],
    "collections": ["defaultdict"],
}
BUILTINS = """
len range enumerate zip min max sum abs sorted reversed int str bool bytes list tuple dict
set frozenset isinstance ord repr any all divmod pow getattr hasattr setattr iter next map
super property staticmethod classmethod Exception ValueError TypeError KeyError
IndexError LookupError ZeroDivisionError ArithmeticError OverflowError RuntimeError
NotImplementedError AttributeError StopIteration NotImplemented
""".split()
METHODS = """
append clear copy count endswith extend find get index insert isalnum isalpha isdigit islower
isspace isupper items join keys ljust lower lstrip partition pop remove replace reverse rfind
rjust rpartition rsplit rstrip setdefault split splitlines startswith strip update upper values
zfill bit_length add discard sort format from_iterable __init__
""".split()
BARRED = ["register", "mro", "elements", "open", "input", "law", "version_info"]
WORDS = ["_" + "wall", "dataclass", "overload", "contextmanager"]


def sources():
    """From the names of the package's files to their texts."""
    found = {}
    for name in sorted(os.listdir(FOLDER)):
        if name.endswith(".py"):
            with open(os.path.join(FOLDER, name), encoding="utf-8") as file:
                found[name] = file.read()
    return found


def nodes(kinds):
    """All nodes of some kinds in the package, each behind its file's name."""
    for name, text in sources().items():
        for node in ast.walk(ast.parse(text)):
            if isinstance(node, kinds):
                yield name, node


class LanguageTest(unittest.TestCase):

    def test_files(self):
        for name in os.listdir(FOLDER):
            if name != "__pycache__":
                self.assertRegex(name, r"\A[a-z0-9_]+\.py\Z")
        self.assertIn("__init__.py", sources())

    def test_sizes_and_signs(self):
        for name, text in sources().items():
            lines = text.split("\n")
            self.assertLess(len(lines), 400, name)
            for row, line in enumerate(lines, 1):
                with self.subTest(file=name, row=row):
                    self.assertLessEqual(len(line), 120)
                    self.assertTrue(all(" " <= sign <= "~" for sign in line))

    def test_functions_are_small(self):
        for name, node in nodes(ast.FunctionDef):
            self.assertLessEqual(node.end_lineno - node.lineno + 1, 40, (name, node.name))

    def test_imports(self):
        for name, node in nodes((ast.Import, ast.ImportFrom)):
            with self.subTest(file=name, row=node.lineno):
                self.assertIsInstance(node, ast.ImportFrom)
                if node.module not in LIBRARY:
                    self.assertTrue(node.module.startswith("reachbook."))
                for alias in node.names:
                    self.assertNotEqual(alias.name, "*")
                    if node.module in LIBRARY:
                        self.assertIn(alias.name, LIBRARY[node.module])

    def test_imports_go_one_way(self):
        leads = {name[:-3]: [] for name in sources()}
        for name, node in nodes(ast.ImportFrom):
            if node.module.startswith("reachbook."):
                leads[name[:-3]].append(node.module[len("reachbook."):])
        done = []
        while len(done) < len(leads):
            free = [name for name in leads if name not in done and set(leads[name]) <= set(done)]
            self.assertTrue(free, leads)
            done.extend(free)

    def test_words(self):
        for name, text in sources().items():
            for word in WORDS:
                self.assertNotIn(word, text, name)

    def test_names(self):
        for name, node in nodes((ast.Name, ast.arg, ast.FunctionDef, ast.ClassDef)):
            word = getattr(node, "id", None) or getattr(node, "arg", None) or node.name
            with self.subTest(file=name, row=node.lineno, word=word):
                self.assertNotIn(word, BARRED)
                is_read = isinstance(node, ast.Name) and isinstance(node.ctx, ast.Load)
                if word in vars(builtins):
                    self.assertTrue(is_read and word in BUILTINS)

    def test_names_of_imports_and_classes_mean_nothing_else(self):
        for name, text in sources().items():
            tree = ast.parse(text)
            bound = [node.name for node in tree.body if isinstance(node, ast.ClassDef)]
            for node in ast.walk(tree):
                if isinstance(node, ast.ImportFrom):
                    bound.extend(alias.name for alias in node.names)
            self.assertEqual(len(bound), len(set(bound)), name)
            read = []
            for node in ast.walk(tree):
                if isinstance(node, ast.Name) and isinstance(node.ctx, ast.Load):
                    read.append(node.id)
                elif isinstance(node, ast.Name):
                    self.assertNotIn(node.id, bound, (name, node.lineno))
                elif isinstance(node, ast.arg):
                    self.assertNotIn(node.arg, bound, (name, node.lineno))
                elif isinstance(node, (ast.MatchAs, ast.ExceptHandler)):
                    self.assertNotIn(node.name, bound, (name, node.lineno))
            for node in tree.body:
                if isinstance(node, ast.ImportFrom):
                    self.assertLessEqual({alias.name for alias in node.names}, set(read), name)

    def test_methods(self):
        own = [node.name for _, node in nodes(ast.FunctionDef)]
        for name, node in nodes(ast.Call):
            if isinstance(node.func, ast.Attribute):
                with self.subTest(file=name, row=node.lineno):
                    self.assertIn(node.func.attr, own + METHODS)

    def test_statements(self):
        barred = (ast.Global, ast.AsyncFunctionDef, ast.AsyncFor, ast.AsyncWith, ast.Await)
        self.assertEqual(list(nodes(barred)), [])
        for name, node in nodes(ast.ExceptHandler):
            self.assertIsNotNone(node.type, name)

    def test_values(self):
        for name, node in nodes(ast.Constant):
            with self.subTest(file=name, row=node.lineno):
                self.assertNotIsInstance(node.value, (float, complex))
                if isinstance(node.value, str):
                    self.assertNotIn("%", node.value)
        for name, node in nodes(ast.Div):
            self.fail(name)


if __name__ == "__main__":
    unittest.main()
