"""Rules of LANGUAGE.md that can be seen in the files of the package."""

import ast
import builtins
import pathlib
import re
import unittest

FOLDER = pathlib.Path(__file__).resolve().parent.parent / "shellways"
BUILTINS = set((
    "len range enumerate zip min max sum abs sorted reversed int str bool list tuple dict set "
    "frozenset isinstance ord repr any all divmod Exception ValueError TypeError KeyError "
    "IndexError LookupError ZeroDivisionError ArithmeticError OverflowError RuntimeError "
    "NotImplementedError AttributeError super iter next map").split())
METHODS = set((
    "append clear copy count endswith extend find get index insert isalnum isalpha isdigit islower "
    "isspace isupper items join keys ljust lower lstrip partition pop remove replace reverse rfind "
    "rjust rpartition rsplit rstrip setdefault split splitlines startswith strip update upper "
    "values zfill bit_length add discard isascii").split())
BARRED = ("type typing typing_extensions enum Enum IntEnum StrEnum Flag IntFlag Generic Protocol "
          "ABC ABCMeta namedtuple NamedTuple TypedDict TYPE_CHECKING abstractmethod _wall "
          "_WallAttr").split()
BARRED_NAMES = set("register mro elements open input law version_info with_traceback add_note".split())
LIBRARY = {"itertools": {"product", "combinations", "permutations"}, "math": {"gcd", "lcm", "isqrt", "comb"},
           "heapq": {"heappush", "heappop", "heapify"}}
FORBIDDEN = (ast.Global, ast.AsyncFunctionDef, ast.Await, ast.AsyncFor, ast.AsyncWith,
             ast.JoinedStr, ast.Div)


class Language(unittest.TestCase):
    def setUp(self):
        self.files = sorted(FOLDER.glob("*.py"))
        self.trees = [(path.name, ast.parse(path.read_text())) for path in self.files]

    def nodes(self, *kinds):
        return [(name, node) for name, tree in self.trees for node in ast.walk(tree)
                if isinstance(node, kinds)]

    def test_files(self):
        found = [path.name for path in FOLDER.iterdir() if path.name != "__pycache__"]
        self.assertEqual(sorted(found), [path.name for path in self.files])
        self.assertIn("__init__.py", found)
        for name in found:
            self.assertRegex(name, r"^[a-z0-9_]+\.py$")

    def test_lines(self):
        for path in self.files:
            lines = path.read_text().split("\n")
            self.assertLessEqual(len(lines) - 1, 399, path.name)
            for line in lines:
                self.assertLessEqual(len(line), 120, path.name)
                self.assertRegex(line, r"^[ -~]*$", path.name)
                self.assertEqual(line, line.rstrip(), path.name)

    def test_words(self):
        for path in self.files:
            for word in BARRED:
                self.assertIsNone(re.search(rf"\b{word}\b", path.read_text()), (path.name, word))
        for name, node in self.nodes(ast.Constant):
            if isinstance(node.value, str):
                self.assertNotIn("%", node.value, name)

    def test_functions_are_short(self):
        for name, node in self.nodes(ast.FunctionDef):
            self.assertLessEqual(node.end_lineno - node.lineno + 1, 40, (name, node.name))

    def test_statements(self):
        for kind in FORBIDDEN:
            self.assertEqual(self.nodes(kind), [])
        for name, node in self.nodes(ast.Constant):
            self.assertNotIsInstance(node.value, (float, complex), name)

    def test_imports_stand_on_top_and_are_own(self):
        self.assertEqual(self.nodes(ast.Import), [])
        for name, tree in self.trees:
            body = [node for node in tree.body if not isinstance(node, ast.Expr)]
            imports = [node for node in body if isinstance(node, ast.ImportFrom)]
            self.assertEqual(body[:len(imports)], imports, name)
            for node in imports:
                if node.module in LIBRARY:
                    self.assertLessEqual({alias.name for alias in node.names}, LIBRARY[node.module])
                    continue
                self.assertRegex(node.module, r"^shellways\.\w+$", name)
                home = ast.parse((FOLDER / (node.module.split(".")[1] + ".py")).read_text())
                for alias in node.names:
                    # The very file that defines the name, not one that imports it.
                    self.assertIn(alias.name, bound_names(home, False), name)
                    self.assertIsNone(alias.asname)

    def test_imports_make_no_ring(self):
        needs = {name[:-3]: [node.module.split(".")[1] for node in tree.body
                             if isinstance(node, ast.ImportFrom) and node.module not in LIBRARY]
                 for name, tree in self.trees}
        while needs:
            free = [name for name, others in needs.items()
                    if not [other for other in others if other in needs]]
            self.assertNotEqual(free, [], needs)
            for name in free:
                del needs[name]

    def test_module_level(self):
        for name, tree in self.trees:
            names = bound_names(tree)
            self.assertEqual(len(names), len(set(names)), name)
            for node in tree.body:
                self.assertIsInstance(node, (ast.Expr, ast.ImportFrom, ast.FunctionDef,
                                             ast.ClassDef, ast.Assign), name)
                if isinstance(node, ast.Expr):
                    self.assertIsInstance(node.value, ast.Constant, name)

    def test_builtins_and_their_names(self):
        everything = set(dir(builtins))
        for name, tree in self.trees:
            self.assertEqual(everything & set(bound_names(tree)), set(), name)
        for name, node in self.nodes(ast.Name):
            if node.id in everything:
                self.assertIn(node.id, BUILTINS, name)
                self.assertIsInstance(node.ctx, ast.Load, (name, node.id))
            self.assertNotIn(node.id, BARRED_NAMES)
        for name, node in self.nodes(ast.arg):
            self.assertNotIn(node.arg, everything | BARRED_NAMES, name)
        for name, node in self.nodes(ast.FunctionDef, ast.ClassDef):
            self.assertNotIn(node.name, BARRED_NAMES | {"exit", "id", "vars", "dir"}, name)
            self.assertEqual(node.decorator_list, [], name)

    def test_methods_that_are_called(self):
        own = {node.name for _, node in self.nodes(ast.FunctionDef)}
        for name, node in self.nodes(ast.Call):
            if isinstance(node.func, ast.Attribute) and node.func.attr != "__init__":
                self.assertIn(node.func.attr, METHODS | own, name)

    def test_no_name_is_a_method_and_an_attribute(self):
        methods = {node.name for _, tree in self.nodes(ast.ClassDef) for node in tree.body
                   if isinstance(node, ast.FunctionDef)}
        assigned = {node.attr for _, node in self.nodes(ast.Attribute)
                    if isinstance(node.ctx, ast.Store)}
        self.assertEqual(methods & assigned, set())
        builtin = {word for kind in (str, int, list, dict, set, bytes) for word in dir(kind)}
        self.assertEqual(assigned & builtin - {"index", "count", "title", "copy"}, set())
        for name, node in self.nodes(ast.Attribute):
            if isinstance(node.ctx, ast.Store):
                self.assertIsInstance(node.value, ast.Name, name)

    def test_locals_have_no_name_of_a_class_or_import(self):
        for name, tree in self.trees:
            taken = {alias.name for node in tree.body if isinstance(node, ast.ImportFrom) for alias in node.names}
            taken |= {node.name for node in tree.body if isinstance(node, ast.ClassDef)}
            for node in ast.walk(tree):
                if isinstance(node, ast.Name) and isinstance(node.ctx, ast.Store):
                    self.assertNotIn(node.id, taken, name)
                if isinstance(node, ast.arg):
                    self.assertNotIn(node.arg, taken, name)

    def test_stars_and_sets(self):
        for name, node in self.nodes(ast.Starred):
            if isinstance(node.ctx, ast.Load):
                self.assertIsInstance(node.value, (ast.Name, ast.Attribute, ast.Subscript), name)
        for name, tree in self.trees:
            for node in ast.walk(tree):
                for part in ast.iter_child_nodes(node):
                    if isinstance(part, (ast.SetComp, ast.Set)) or called(part) == "set":
                        self.assertTrue(called(node) in ("sorted", "len") or isinstance(node, (ast.Assign, ast.Compare)),
                                        (name, node.lineno))
            for function in ast.walk(tree):
                if isinstance(function, ast.FunctionDef):
                    self.check_stored_sets(name, function)

    def check_stored_sets(self, name, function):
        stored = [node.targets[0].id for node in ast.walk(function)
                  if isinstance(node, ast.Assign) and called(node.value) == "set"]
        self.assertEqual(len(stored), len(set(stored)), name)
        for node in ast.walk(function):
            if isinstance(node, ast.Return) and isinstance(node.value, ast.Name):
                self.assertNotIn(node.value.id, stored, name)
            if isinstance(node, ast.For) and isinstance(node.iter, ast.Name):
                self.assertNotIn(node.iter.id, stored, name)

    def test_views_are_iterated_at_once(self):
        for name, tree in self.trees:
            for node in ast.walk(tree):
                if isinstance(node, (ast.Assign, ast.Return, ast.Compare, ast.Starred)):
                    for part in ast.iter_child_nodes(node):
                        self.assertNotIn(called(part), ("zip", "enumerate", "reversed", "items", "keys", "values", "map"),
                                         (name, node.lineno))

    def test_methods_with_underscores_only_return(self):
        for name, node in self.nodes(ast.FunctionDef):
            if node.name in ("__eq__", "__len__", "__str__", "__repr__"):
                body = [part for part in node.body if not isinstance(part, ast.Expr)]
                self.assertEqual([type(part) for part in body], [ast.Return], (name, node.name))

    def test_no_generators(self):
        # A class compares, so that lists are asked for beside any, all, sum and the like.
        self.assertEqual(self.nodes(ast.GeneratorExp, ast.Yield, ast.YieldFrom), [])

    def test_is_only_with_constants(self):
        for name, node in self.nodes(ast.Compare):
            for sign, right in zip(node.ops, node.comparators):
                if isinstance(sign, (ast.Is, ast.IsNot)):
                    self.assertIsInstance(right, ast.Constant, name)


def called(node):
    """The name of the function or method that a node calls."""
    if not isinstance(node, ast.Call):
        return None
    return node.func.id if isinstance(node.func, ast.Name) else node.func.attr


def bound_names(tree, imported=True):
    names = []
    for node in tree.body:
        if isinstance(node, (ast.FunctionDef, ast.ClassDef)):
            names.append(node.name)
        elif isinstance(node, ast.ImportFrom) and imported:
            names.extend(alias.name for alias in node.names)
        elif isinstance(node, ast.Assign):
            names.extend(target.id for target in node.targets)
    return names


if __name__ == "__main__":
    unittest.main()
