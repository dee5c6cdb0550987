"""Point [1] and the form of the package: what its files may contain and may use."""

import ast
import builtins
import pathlib
import unittest

ROOT = pathlib.Path(__file__).resolve().parent.parent
PACKAGE = ROOT / "knownlate"
LIBRARY = {
    "heapq": {"heappush", "heappop", "heapify", "heapreplace", "heappushpop"},
    "math": {"gcd", "lcm", "isqrt", "comb", "perm", "factorial"},
    "itertools": {"product", "combinations", "permutations", "chain", "accumulate", "pairwise", "islice",
                  "zip_longest"},
    "collections": {"defaultdict"},
}
BUILTINS = set("""len range enumerate zip min max sum abs sorted reversed int str bool bytes list tuple dict set
    frozenset isinstance ord repr any all divmod pow getattr hasattr setattr iter next map super property staticmethod
    classmethod Exception ValueError TypeError KeyError IndexError LookupError ZeroDivisionError ArithmeticError
    OverflowError RuntimeError NotImplementedError AttributeError StopIteration NotImplemented""".split())
BARRED_WORDS = ("type", "typing", "enum", "Enum", "Flag", "Generic", "Protocol", "namedtuple", "dataclass", "overload")
BARRED_NODES = (ast.Global, ast.AsyncFunctionDef, ast.AsyncFor, ast.AsyncWith, ast.Await, ast.Import, ast.Set)


def files():
    return sorted(PACKAGE.rglob("*.py"))


def trees():
    return [(path, ast.parse(path.read_text(encoding="utf-8"))) for path in files()]


class Files(unittest.TestCase):
    def test_there_is_a_package(self):
        self.assertIn(PACKAGE / "__init__.py", files())

    def test_only_plain_files(self):
        for path in PACKAGE.rglob("*"):
            if "__pycache__" in path.parts:
                continue
            self.assertTrue(path.is_dir() or path.suffix == ".py", path)
            self.assertEqual(path.name, path.name.lower())
            self.assertNotRegex(path.name, "^(test|law_|conftest|site)")

    def test_sizes_and_characters(self):
        for path in files():
            text = path.read_text(encoding="utf-8")
            lines = text.split("\n")
            self.assertLessEqual(len(lines), 399, path)
            for number, line in enumerate(lines, 1):
                self.assertLessEqual(len(line), 120, (path, number))
                self.assertTrue(all(" " <= each <= "~" for each in line), (path, number))

    def test_functions_have_at_most_40_lines(self):
        for path, tree in trees():
            for node in ast.walk(tree):
                if isinstance(node, ast.FunctionDef):
                    self.assertLessEqual(node.end_lineno - node.lineno + 1, 40, (path, node.name))

    def test_names_of_the_interface_stand_in_their_files(self):
        for file, names in (("errors", ["KnowError"]), ("values", ["is_name", "is_state"]), ("machines", ["Machine"])):
            tree = ast.parse((PACKAGE / (file + ".py")).read_text(encoding="utf-8"))
            found = [node.name for node in tree.body if isinstance(node, (ast.FunctionDef, ast.ClassDef))]
            for name in names:
                self.assertIn(name, found)


class Uses(unittest.TestCase):
    def test_imports(self):
        for path, tree in trees():
            for node in ast.walk(tree):
                self.assertNotIsInstance(node, BARRED_NODES, (path, getattr(node, "lineno", 0)))
                if isinstance(node, ast.ImportFrom):
                    names = {each.name for each in node.names}
                    self.assertEqual(node.level, 0, path)
                    if node.module in LIBRARY:
                        self.assertLessEqual(names, LIBRARY[node.module], path)
                    else:
                        self.assertTrue(node.module.startswith("knownlate."), (path, node.module))
                        self.check_defined(node.module, names)

    def check_defined(self, module, names):
        path = ROOT.joinpath(*module.split(".")).with_suffix(".py")
        found = set()
        for node in ast.parse(path.read_text(encoding="utf-8")).body:
            if isinstance(node, (ast.FunctionDef, ast.ClassDef)):
                found.add(node.name)
            elif isinstance(node, ast.Assign):
                found.add(node.targets[0].id)
        self.assertLessEqual(names, found, module)

    def test_builtins(self):
        known = set(dir(builtins))
        for path, tree in trees():
            for node in ast.walk(tree):
                if isinstance(node, ast.Name):
                    if isinstance(node.ctx, ast.Load) and node.id in known:
                        self.assertIn(node.id, BUILTINS, (path, node.lineno))
                    elif not isinstance(node.ctx, ast.Load):
                        self.assertNotIn(node.id, known, (path, node.lineno))
                elif isinstance(node, ast.arg):
                    self.assertNotIn(node.arg, known, (path, node.lineno))

    def test_no_generator_expressions_and_no_floats(self):
        # Machines compare by ==, so any, all and the like take lists.
        for path, tree in trees():
            for node in ast.walk(tree):
                self.assertNotIsInstance(node, (ast.GeneratorExp, ast.Div), path)
                if isinstance(node, ast.Constant):
                    self.assertNotIsInstance(node.value, (float, complex), path)

    def test_barred_words(self):
        for path, tree in trees():
            for node in ast.walk(tree):
                for word in (getattr(node, "id", None), getattr(node, "attr", None), getattr(node, "name", None)):
                    self.assertNotIn(word, BARRED_WORDS, path)

    def test_decorators(self):
        for path, tree in trees():
            for node in ast.walk(tree):
                for each in getattr(node, "decorator_list", []):
                    text = ast.unparse(each)
                    self.assertTrue(text in ("property", "staticmethod", "classmethod") or text.endswith(".setter"),
                                    (path, text))

    def test_no_two_files_import_from_each_other(self):
        imports = {path.stem: [node.module.split(".")[-1] for node in tree.body
                               if isinstance(node, ast.ImportFrom) and node.module.startswith("knownlate.")]
                   for path, tree in trees()}
        done = []
        while len(done) < len(imports):
            ready = [name for name in imports if name not in done and set(imports[name]) <= set(done)]
            self.assertTrue(ready, "some files import from each other")
            done.extend(ready)


if __name__ == "__main__":
    unittest.main()
