"""Point [1] and the form of the package: what its files may contain and may use."""

import ast
import builtins
import pathlib
import unittest

ROOT = pathlib.Path(__file__).resolve().parent.parent
PACKAGE = ROOT / "knownlate"
LIBRARY = {
    "heapq": {"heappush", "heappop", "heapify", "heapreplace", "heappushpop"},
    "math": {"gcd", "lcm", "isqrt", "comb", "perm", "factorial"},
    "itertools": {"product", "combinations", "permutations", "chain", "accumulate", "pairwise", "islice",
                  "zip_longest"},
    "collections": {"defaultdict"},
}
BUILTINS = set("""len range enumerate zip min max sum abs sorted reversed int str bool bytes list tuple dict set
    frozenset isinstance ord repr any all divmod pow getattr hasattr setattr iter next map super property staticmethod
    classmethod Exception ValueError TypeError KeyError IndexError LookupError ZeroDivisionError ArithmeticError
    OverflowError RuntimeError NotImplementedError AttributeError StopIteration NotImplemented""".split())
BARRED_WORDS = ("type", "typing", "enum", "Enum", "Flag", "Generic", "Protocol", "namedtuple", "dataclass", "overload")
INTERFACE = {
    "errors": ["KnowError"],
    "values": ["is_name", "is_state"],
    "machines": ["Machine"],
    "watches": ["Watch", "all_seen", "seeing"],
    "runs": ["end_of", "faults_in", "sights_of", "steps_behind", "alike", "rows_of", "shortest_to"],
    "estimates": ["after", "known", "telling", "veil", "is_veil"],
    "late": ["late", "ranks", "is_ranks", "alike_runs", "is_alike", "endless", "is_endless"],
    "losses": ["with_losses"],
    "foretold": ["avoiding", "ahead", "untold", "is_untold"],
    "finer": ["finer", "unlike", "is_unlike", "same_sight"],
    "least": ["enough", "least_sets", "cheapest", "is_against"],
    "asks": ["needed", "tree", "is_tree", "answers", "is_answers", "twins"],
    "texts": ["machine_text", "read_machine"],
    "post": ["Post", "Trial"],
}
METHODS = {
    "Machine": ["start", "steps", "words", "fault_names", "faults", "states", "beside", "renumbered", "__eq__"],
    "Watch": ["words", "sights", "copy", "within", "__getitem__", "__setitem__", "__contains__", "__len__", "__bool__",
              "__eq__", "__iter__", "__or__", "__ror__", "__and__", "__rand__", "__sub__", "__ior__", "__isub__"],
    "Post": ["watch", "__getitem__", "__setitem__", "__iter__", "follow", "late", "undo", "trial", "rehearse", "tried"],
    "Trial": ["__enter__", "__exit__"],
}
# What these make is gone over where it stands, and is not kept.
PASSING = ("zip", "enumerate", "reversed", "items", "keys", "values")
TAKERS = ("list", "tuple", "dict", "sorted", "sum", "any", "all", "enumerate", "zip", "min", "max")
BARRED_NODES = (ast.Global, ast.AsyncFunctionDef, ast.AsyncFor, ast.AsyncWith, ast.Await, ast.Import, ast.Set)


def files():
    return sorted(PACKAGE.rglob("*.py"))


def trees():
    return [(path, ast.parse(path.read_text(encoding="utf-8"))) for path in files()]


def called(node):
    """The name of the function or method that a node calls, or None."""
    if not isinstance(node, ast.Call):
        return None
    return getattr(node.func, "id", None) or getattr(node.func, "attr", None)


class Files(unittest.TestCase):
    def test_there_is_a_package(self):
        self.assertIn(PACKAGE / "__init__.py", files())

    def test_only_plain_files(self):
        for path in PACKAGE.rglob("*"):
            if "__pycache__" in path.parts:
                continue
            self.assertTrue(path.is_dir() or path.suffix == ".py", path)
            self.assertEqual(path.name, path.name.lower())
            self.assertNotRegex(path.name, "^(test|law_|conftest|site)")

    def test_sizes_and_characters(self):
        for path in files():
            text = path.read_text(encoding="utf-8")
            lines = text.split("\n")
            self.assertLessEqual(len(lines), 399, path)
            for number, line in enumerate(lines, 1):
                self.assertLessEqual(len(line), 120, (path, number))
                self.assertTrue(all(" " <= each <= "~" for each in line), (path, number))

    def test_functions_have_at_most_40_lines(self):
        for path, tree in trees():
            for node in ast.walk(tree):
                if isinstance(node, ast.FunctionDef):
                    self.assertLessEqual(node.end_lineno - node.lineno + 1, 40, (path, node.name))

    def test_names_of_the_interface_stand_in_their_files(self):
        for file, names in INTERFACE.items():
            tree = ast.parse((PACKAGE / (file + ".py")).read_text(encoding="utf-8"))
            found = [node.name for node in tree.body if isinstance(node, (ast.FunctionDef, ast.ClassDef))]
            for name in names:
                self.assertIn(name, found)

    def test_methods_of_the_interface_stand_in_their_classes(self):
        found = {node.name: [each.name for each in node.body if isinstance(each, ast.FunctionDef)]
                 for path, tree in trees() for node in tree.body if isinstance(node, ast.ClassDef)}
        for name, methods in METHODS.items():
            self.assertLessEqual(set(methods), set(found[name]))


class Uses(unittest.TestCase):
    def test_imports(self):
        for path, tree in trees():
            for node in ast.walk(tree):
                self.assertNotIsInstance(node, BARRED_NODES, (path, getattr(node, "lineno", 0)))
                if isinstance(node, ast.ImportFrom):
                    names = {each.name for each in node.names}
                    self.assertEqual(node.level, 0, path)
                    if node.module in LIBRARY:
                        self.assertLessEqual(names, LIBRARY[node.module], path)
                    else:
                        self.assertTrue(node.module.startswith("knownlate."), (path, node.module))
                        self.check_defined(node.module, names)

    def check_defined(self, module, names):
        path = ROOT.joinpath(*module.split(".")).with_suffix(".py")
        found = set()
        for node in ast.parse(path.read_text(encoding="utf-8")).body:
            if isinstance(node, (ast.FunctionDef, ast.ClassDef)):
                found.add(node.name)
            elif isinstance(node, ast.Assign):
                found.add(node.targets[0].id)
        self.assertLessEqual(names, found, module)

    def test_builtins(self):
        known = set(dir(builtins))
        for path, tree in trees():
            for node in ast.walk(tree):
                if isinstance(node, ast.Name):
                    if isinstance(node.ctx, ast.Load) and node.id in known:
                        self.assertIn(node.id, BUILTINS, (path, node.lineno))
                    elif not isinstance(node.ctx, ast.Load):
                        self.assertNotIn(node.id, known, (path, node.lineno))
                elif isinstance(node, ast.arg):
                    self.assertNotIn(node.arg, known, (path, node.lineno))

    def test_no_generator_expressions_and_no_floats(self):
        # Machines compare by ==, so any, all and the like take lists.
        for path, tree in trees():
            for node in ast.walk(tree):
                self.assertNotIsInstance(node, (ast.GeneratorExp, ast.Div), path)
                if isinstance(node, ast.Constant):
                    self.assertNotIsInstance(node.value, (float, complex), path)

    def test_sets_stand_only_in_sorted_and_len(self):
        for path, tree in trees():
            for node in ast.walk(tree):
                inside = node.args if called(node) in ("sorted", "len") else []
                for child in ast.iter_child_nodes(node):
                    if isinstance(child, ast.SetComp) or called(child) in ("set", "frozenset"):
                        self.assertIn(child, inside, (path, child.lineno))

    def test_what_is_gone_over_once_is_not_kept(self):
        for path, tree in trees():
            for node in ast.walk(tree):
                for child in ast.iter_child_nodes(node):
                    if called(child) in PASSING:
                        good = isinstance(node, (ast.For, ast.comprehension)) and child is node.iter
                        self.assertTrue(good or called(node) in TAKERS, (path, child.lineno))

    def test_lists_are_sorted_by_sorted_alone(self):
        for path, tree in trees():
            for node in ast.walk(tree):
                self.assertNotEqual(called(node), "sort", path)

    def test_no_name_of_an_import_or_a_class_is_used_again(self):
        for path, tree in trees():
            barred = {alias.name for node in tree.body if isinstance(node, ast.ImportFrom) for alias in node.names}
            barred |= {node.name for node in tree.body if isinstance(node, ast.ClassDef)}
            for node in ast.walk(tree):
                if isinstance(node, ast.Name) and not isinstance(node.ctx, ast.Load):
                    self.assertNotIn(node.id, barred, (path, node.lineno))
                elif isinstance(node, ast.arg):
                    self.assertNotIn(node.arg, barred, (path, node.lineno))

    def test_methods_attributes_and_properties_have_their_own_names(self):
        plain, properties, attributes = set(), set(), set()
        for path, tree in trees():
            for node in ast.walk(tree):
                for each in node.body if isinstance(node, ast.ClassDef) else []:
                    if isinstance(each, ast.FunctionDef):
                        (properties if each.decorator_list else plain).add(each.name)
                if isinstance(node, ast.Attribute) and isinstance(node.ctx, ast.Store):
                    attributes.add(node.attr)
        self.assertEqual([plain & properties, plain & attributes, properties & attributes], [set(), set(), set()])

    def test_strings(self):
        for path, tree in trees():
            for node in ast.walk(tree):
                if isinstance(node, ast.Constant) and isinstance(node.value, str):
                    self.assertNotIn("%", node.value, (path, node.lineno))
                    self.assertFalse(node.value.endswith(("._", ".__")), (path, node.lineno))

    def test_one_lambda_in_a_line(self):
        for path, tree in trees():
            lines = [node.lineno for node in ast.walk(tree) if isinstance(node, ast.Lambda)]
            self.assertEqual(len(lines), len(set(lines)), path)

    def test_exits_only_assign_attributes(self):
        for path, tree in trees():
            for node in ast.walk(tree):
                if isinstance(node, ast.FunctionDef) and node.name == "__exit__":
                    for row in node.body:
                        self.assertIsInstance(row, ast.Assign, path)
                        self.assertIsInstance(row.value, ast.Attribute, path)

    def test_functions_around_the_errors_of_python(self):
        # Only errors of the program are caught.
        known = {node.name for node in dict(trees())[PACKAGE / "errors.py"].body if isinstance(node, ast.ClassDef)}
        for path, tree in trees():
            caught = [node for node in ast.walk(tree) if isinstance(node, ast.ExceptHandler)]
            self.assertLessEqual({node.type.id for node in caught}, known, path)
            self.assertEqual(len({node.name for node in caught}), len(caught), path)

    def test_barred_words(self):
        for path, tree in trees():
            self.assertNotRegex(path.read_text(encoding="utf-8"), r"Meta|\(type\)|metaclass=|_wall", path)
            for node in ast.walk(tree):
                for word in (getattr(node, "id", None), getattr(node, "attr", None), getattr(node, "name", None)):
                    self.assertNotIn(word, BARRED_WORDS, path)

    def test_decorators(self):
        for path, tree in trees():
            for node in ast.walk(tree):
                for each in getattr(node, "decorator_list", []):
                    text = ast.unparse(each)
                    self.assertTrue(text in ("property", "staticmethod", "classmethod") or text.endswith(".setter"),
                                    (path, text))

    def test_no_two_files_import_from_each_other(self):
        imports = {path.stem: [node.module.split(".")[-1] for node in tree.body
                               if isinstance(node, ast.ImportFrom) and node.module.startswith("knownlate.")]
                   for path, tree in trees()}
        done = []
        while len(done) < len(imports):
            ready = [name for name in imports if name not in done and set(imports[name]) <= set(done)]
            self.assertTrue(ready, "some files import from each other")
            done.extend(ready)


if __name__ == "__main__":
    unittest.main()
