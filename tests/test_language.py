"""Rules of form that hold for every file of the package."""

import ast
import builtins
import pathlib
import unittest

PACKAGE = pathlib.Path(__file__).resolve().parent.parent / "dartwebs"

INTERFACE = {
    "errors.py": ("WebError", "BadWeb", "InvalidText", "BadTimes"),
    "webs.py": ("is_web", "is_tree", "arrows", "web_of", "turned", "turned_all", "renamed", "parts"),
    "rowtexts.py": ("row_of", "printed"),
    "sums.py": ("is_sum", "plus", "times", "over", "sum_text", "below"),
    "shares.py": ("value",),
    "lots.py": ("first_lot", "lot_behind", "numbers", "values", "wholes"),
    "frames.py": ("frame", "greens", "green_row", "degrees", "inners", "by_frames"),
    "classing.py": ("least_named", "is_finite", "class_of", "paper", "judged", "kind"),
    "roots.py": ("roots", "numbers_count", "lots_count"),
    "joined.py": ("all_lots", "all_numbers", "round_of"),
    "polygons.py": ("web_of_cutting", "flipped", "lengths", "ways"),
    "desks.py": ("Desk", "desk_of"),
    "beats.py": ("sides", "beats", "beat", "is_steady", "steady_row"),
}

LIBRARY = {
    "heapq": ("heappush", "heappop", "heapify", "heapreplace", "heappushpop"),
    "math": ("gcd", "lcm", "isqrt", "comb", "perm", "factorial"),
    "itertools": ("product", "combinations", "permutations"),
}

# The builtins that the package may call or name.
ALLOWED = (
    "len", "range", "enumerate", "zip", "min", "max", "sum", "abs", "sorted", "reversed", "int", "str", "bool", "list",
    "tuple", "dict", "set", "isinstance", "ord", "repr", "any", "all", "divmod", "ValueError",
)

# The methods of builtin values that the package may call.
METHODS = (
    "append", "clear", "copy", "count", "endswith", "extend", "find", "get", "index", "insert", "isalnum", "isalpha",
    "isdigit", "islower", "isspace", "isupper", "items", "join", "keys", "ljust", "lower", "lstrip", "partition", "pop",
    "remove", "replace", "reverse", "rfind", "rjust", "rpartition", "rsplit", "rstrip", "setdefault", "split",
    "splitlines", "startswith", "strip", "update", "upper", "values", "zfill", "bit_length", "add", "discard", "isascii",
)

# A doctest keeps what it showed last as a builtin called _.
BUILTINS = [name for name in dir(builtins) if name != "_"]


class Language(unittest.TestCase):
    def setUp(self):
        self.texts = {path: path.read_text(encoding="utf-8") for path in sorted(PACKAGE.rglob("*.py"))}
        self.trees = {path: ast.parse(text) for path, text in self.texts.items()}

    def test_only_program_files(self):
        for path in PACKAGE.rglob("*"):
            if "__pycache__" not in path.parts:
                self.assertEqual(path.suffix, ".py", path)

    def test_sizes_and_signs(self):
        for path, text in self.texts.items():
            lines = text.split("\n")
            self.assertLessEqual(len(lines), 399, path)
            for at, line in enumerate(lines, 1):
                self.assertLessEqual(len(line), 120, (path, at))
                self.assertTrue(all(" " <= sign <= "~" for sign in line), (path, at))

    def test_sizes_of_functions(self):
        for path, tree in self.trees.items():
            for node in ast.walk(tree):
                if isinstance(node, ast.FunctionDef):
                    self.assertLessEqual(node.end_lineno - node.lineno + 1, 40, (path, node.name))

    def test_imports_from_the_file_that_defines(self):
        for path, tree in self.trees.items():
            for node in ast.walk(tree):
                self.assertNotIsInstance(node, ast.Import, path)
                if isinstance(node, ast.ImportFrom):
                    self.assertEqual(node.level, 0, path)
                    bound = LIBRARY.get(node.module)
                    if bound is None:
                        package, module = node.module.split(".")
                        self.assertEqual(package, "dartwebs", path)
                        bound = self.bound_in(PACKAGE / f"{module}.py")
                    for alias in node.names:
                        self.assertIn(alias.name, bound, path)
                        self.assertIsNone(alias.asname, path)

    def bound_in(self, path):
        bound = []
        for node in self.trees[path].body:
            if isinstance(node, (ast.FunctionDef, ast.ClassDef)):
                bound.append(node.name)
            elif isinstance(node, ast.Assign):
                bound.extend(target.id for target in node.targets)
        return bound

    def test_interface_is_defined_in_its_file(self):
        for name, wanted in INTERFACE.items():
            bound = self.bound_in(PACKAGE / name)
            for word in wanted:
                self.assertIn(word, bound, name)

    def test_no_state_at_module_level(self):
        allowed = (ast.Import, ast.ImportFrom, ast.FunctionDef, ast.ClassDef, ast.Assign, ast.Expr)
        for path, tree in self.trees.items():
            for node in tree.body:
                self.assertIsInstance(node, allowed, path)
                if isinstance(node, ast.Expr):
                    self.assertIsInstance(node.value, ast.Constant, path)
                elif isinstance(node, ast.Assign):
                    ast.literal_eval(node.value)

    def test_no_name_of_a_builtin_is_bound(self):
        for path, tree in self.trees.items():
            for node in ast.walk(tree):
                name = getattr(node, "arg", None)
                if isinstance(node, ast.Name) and isinstance(node.ctx, ast.Store):
                    name = node.id
                elif isinstance(node, (ast.FunctionDef, ast.ClassDef)):
                    name = node.name
                if name is not None and not isinstance(node, ast.keyword):
                    self.assertFalse(name in BUILTINS, (path, name))

    def test_exponents_are_small_literals(self):
        for path, tree in self.trees.items():
            for node in ast.walk(tree):
                if isinstance(node, ast.BinOp) and isinstance(node.op, ast.Pow):
                    self.assertIsInstance(node.right, ast.Constant, (path, node.lineno))
                    self.assertIn(node.right.value, range(65), (path, node.lineno))

    def test_no_floats_and_no_percent_in_strings(self):
        for path, tree in self.trees.items():
            for node in ast.walk(tree):
                self.assertNotIsInstance(node, ast.Div, path)
                if isinstance(node, ast.Constant):
                    self.assertNotIsInstance(node.value, float, path)
                    self.assertFalse(isinstance(node.value, str) and "%" in node.value, (path, node.lineno))

    def test_names_of_the_library_are_only_called(self):
        for path, tree in self.trees.items():
            called = [node.func for node in ast.walk(tree) if isinstance(node, ast.Call)]
            names = [name for words in LIBRARY.values() for name in words]
            for node in ast.walk(tree):
                if isinstance(node, ast.Name) and node.id in names:
                    self.assertIn(node, called, (path, node.lineno))

    def test_builtins_that_are_allowed(self):
        for path, tree in self.trees.items():
            for node in ast.walk(tree):
                if isinstance(node, ast.Name) and node.id in BUILTINS:
                    self.assertIn(node.id, ALLOWED, (path, node.lineno))

    def test_methods_that_are_allowed(self):
        own = [node.name for tree in self.trees.values() for part in tree.body if isinstance(part, ast.ClassDef)
               for node in part.body if isinstance(node, ast.FunctionDef)]
        for path, tree in self.trees.items():
            for node in ast.walk(tree):
                if isinstance(node, ast.Call) and isinstance(node.func, ast.Attribute):
                    self.assertIn(node.func.attr, METHODS + tuple(own), (path, node.lineno))

    def test_statements_that_are_not_allowed(self):
        wrong = (ast.Global, ast.AsyncFunctionDef, ast.Lambda, ast.Yield, ast.With, ast.AnnAssign)
        for path, tree in self.trees.items():
            for node in ast.walk(tree):
                self.assertNotIsInstance(node, wrong, (path, getattr(node, "lineno", 0)))
                if isinstance(node, (ast.FunctionDef, ast.ClassDef)):
                    self.assertEqual(node.decorator_list, [], (path, node.lineno))

    def test_sets_are_never_gone_through(self):
        for path, tree in self.trees.items():
            for node in ast.walk(tree):
                if isinstance(node, (ast.For, ast.comprehension)):
                    self.assertNotIsInstance(node.iter, (ast.Set, ast.SetComp), path)
                    called = node.iter.func if isinstance(node.iter, ast.Call) else None
                    self.assertFalse(isinstance(called, ast.Name) and called.id == "set", path)

    def test_no_name_has_the_name_of_an_import_or_a_class(self):
        for path, tree in self.trees.items():
            taken = [alias.name for node in tree.body if isinstance(node, ast.ImportFrom) for alias in node.names]
            taken += [node.name for node in tree.body if isinstance(node, ast.ClassDef)]
            for node in ast.walk(tree):
                name = getattr(node, "arg", None) if isinstance(node, ast.arg) else None
                if isinstance(node, ast.Name) and isinstance(node.ctx, ast.Store):
                    name = node.id
                self.assertFalse(name in taken, (path, name))

    def test_no_two_files_import_each_other(self):
        lower = {}
        for path, tree in self.trees.items():
            lower[path.stem] = [node.module.split(".")[1] for node in tree.body
                                if isinstance(node, ast.ImportFrom) and node.module.startswith("dartwebs.")]
        while lower:
            free = [name for name, needed in lower.items() if not any(other in lower for other in needed)]
            self.assertNotEqual(free, [], lower)
            lower = {name: needed for name, needed in lower.items() if name not in free}

    def test_methods_of_the_interface_stand_in_their_class(self):
        methods = ("turn", "undo", "web", "row", "lot", "greens", "is_back", "text")
        tree = self.trees[PACKAGE / "desks.py"]
        desk = [node for node in tree.body if isinstance(node, ast.ClassDef) and node.name == "Desk"]
        defined = [node.name for node in desk[0].body if isinstance(node, ast.FunctionDef)]
        for name in methods:
            self.assertIn(name, defined)
