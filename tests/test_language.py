"""The form of the package's files: what of the rules of the language can be told by looking at them."""
import ast
import builtins
import pathlib
import re
import unittest

ROOT = pathlib.Path(__file__).resolve().parent.parent / "latticepoints"
FILES = sorted(ROOT.glob("*.py"))
LIBRARY = {"math": {"gcd", "lcm", "isqrt", "comb", "perm", "factorial"},
           "itertools": {"product", "combinations", "permutations"},
           "heapq": {"heappush", "heappop", "heapify", "heapreplace", "heappushpop"}}
ALLOWED_BUILTINS = set("""len range enumerate zip min max sum abs sorted reversed int str bool bytes list tuple dict set
    isinstance ord repr any all divmod map super iter next Exception ValueError TypeError KeyError IndexError LookupError
    ZeroDivisionError ArithmeticError OverflowError RuntimeError NotImplementedError""".split())
BARRED_NAMES = set("register mro elements open input law version_info with_traceback add_note".split())
BARRED_WORDS = """type typing typing_extensions enum Enum IntEnum StrEnum Flag IntFlag Generic Protocol ABC ABCMeta
    namedtuple NamedTuple TypedDict TYPE_CHECKING abstractmethod _wall _WallAttr""".split()
INTERFACE = {
    "polynomials": "value_at poly_sum poly_product through quasi_value quasi_through least_quasi",
    "equations": "hermite completed solve shows",
    "shapes": "corners facets place_in points_in inner_points content face_numbers",
    "halves": "corners_of",
    "multiples": "ehrhart border_content points_of quasi_count",
    "widths": "width product pyramid",
    "parting": "unparted is_normal",
    "stars": "star half_open box_points",
    "reflexive": "is_reflexive polar center_of",
    "forms": "least_form alike shows_alike all_reflexive",
    "finecuts": "fine_cut",
    "cones": "in_cone cone_rows cone_box series_value graded",
    "brion": "corner_cones unimodular_parts count_by_cones",
    "signed": "short_parts power_sum",
    "coins": "ways ways_with_all pay_quasi unpaid least_by_rest two_ways",
    "threecoins": "greatest_unpaid",
    "dedekind": "dedekind corner_count",
    "steps": "steps from_steps least_sums sail floor_sum",
    "cuts": "integer_hull cut_lines best rounds",
    "orders": "order_polynomial extensions unload load loaded_count",
    "ordershapes": "order_shape loaded_shape",
    "tables": "table_count square_polynomial",
    "colorings": "coloring_polynomial open_orientations",
    "texts": "write_shape read_shape",
    "desks": "Desk",
}
METHODS = {"desks": {"Desk": "run names shape"}}
STATEMENTS = (ast.Import, ast.AsyncFunctionDef, ast.AsyncFor, ast.AsyncWith, ast.Global, ast.Await, ast.Yield,
              ast.YieldFrom, ast.Div, ast.Set, ast.SetComp)


def tree_of(path):
    return ast.parse(path.read_text())


def own_imports(tree):
    return [node.module.split(".")[1] for node in tree.body
            if isinstance(node, ast.ImportFrom) and node.module.startswith("latticepoints.")]


def functions(tree):
    return [node for node in ast.walk(tree) if isinstance(node, ast.FunctionDef)]


def bound_names(tree):
    """All names that are assigned, defined, imported, or parameters."""
    names = []
    for node in ast.walk(tree):
        if isinstance(node, ast.Name) and not isinstance(node.ctx, ast.Load):
            names.append(node.id)
        elif isinstance(node, (ast.FunctionDef, ast.ClassDef)):
            names.append(node.name)
        elif isinstance(node, ast.arg):
            names.append(node.arg)
        elif isinstance(node, ast.ImportFrom):
            names.extend(alias.asname or alias.name for alias in node.names)
    return names


class Language(unittest.TestCase):
    longMessage = True

    def each(self):
        return [(path, tree_of(path)) for path in FILES]

    def test_folder(self):
        found = [path for path in ROOT.iterdir() if path.name != "__pycache__"]
        self.assertEqual(sorted(found), FILES)
        self.assertIn(ROOT / "__init__.py", FILES)
        for path in FILES:
            self.assertRegex(path.name, r"^(__init__|[a-z][a-z0-9_]*)\.py$")
            self.assertTrue(path.stem == "__init__" or not hasattr(builtins, path.stem), path.name)

    def test_size_and_characters(self):
        for path in FILES:
            text = path.read_text()
            lines = text.split("\n")
            self.assertLessEqual(len(lines) - 1, 399, path.name)
            self.assertLessEqual(max(map(len, lines)), 120, path.name)
            self.assertEqual([c for c in text if not (" " <= c <= "~" or c == "\n")], [], path.name)
            self.assertTrue(text.endswith("\n") and not text.endswith("\n\n"), path.name)
            for node in functions(tree_of(path)):
                self.assertLessEqual(node.end_lineno - node.lineno + 1, 40, f"{path.name} {node.name}")
                self.assertEqual(node.decorator_list, [])

    def test_imports(self):
        files = {path.stem for path in FILES}
        for path, tree in self.each():
            for node in ast.walk(tree):
                if not isinstance(node, ast.ImportFrom):
                    continue
                self.assertIn(node, tree.body)
                self.assertEqual(node.level, 0)
                self.assertTrue(all(alias.asname is None and alias.name != "*" for alias in node.names))
                names = {alias.name for alias in node.names}
                if node.module in LIBRARY:
                    self.assertLessEqual(names, LIBRARY[node.module])
                    continue
                package, file = node.module.split(".")
                self.assertEqual((package, file in files), ("latticepoints", True))
                self.assertLessEqual(names, defined_in(tree_of(ROOT / f"{file}.py")), node.module)

    def test_no_circles_of_imports(self):
        ways = {path.stem: own_imports(tree_of(path)) for path in FILES}
        while ways:
            free = [name for name, wanted in ways.items() if not any(other in ways for other in wanted)]
            self.assertTrue(free, f"these import one another: {sorted(ways)}")
            ways = {name: wanted for name, wanted in ways.items() if name not in free}

    def test_all_imports_are_used(self):
        for path, tree in self.each():
            used = {node.id for node in ast.walk(tree) if isinstance(node, ast.Name)}
            for node in tree.body:
                if isinstance(node, ast.ImportFrom):
                    self.assertLessEqual({alias.name for alias in node.names}, used, path.name)

    def test_module_level(self):
        for path, tree in self.each():
            names = []
            for node in tree.body:
                self.assertIsInstance(node, (ast.Expr, ast.ImportFrom, ast.FunctionDef, ast.ClassDef, ast.Assign))
                if isinstance(node, ast.Expr):
                    self.assertIsInstance(node.value.value, str)
                if isinstance(node, ast.Assign):
                    ast.literal_eval(node.value)
            names = list(defined_in(tree, True)) + [alias.name for node in tree.body
                                                    if isinstance(node, ast.ImportFrom) for alias in node.names]
            self.assertEqual(len(names), len(set(names)))

    def test_syntax(self):
        for path, tree in self.each():
            for node in ast.walk(tree):
                self.assertNotIsInstance(node, STATEMENTS, getattr(node, "lineno", None))
                if isinstance(node, ast.Constant):
                    self.assertNotIsInstance(node.value, (float, complex))
                    self.assertFalse(isinstance(node.value, str) and "%" in node.value)
                if isinstance(node, ast.BinOp) and isinstance(node.op, ast.Pow):
                    self.assertIsInstance(node.right, ast.Constant)
                if isinstance(node, ast.Compare) and any(isinstance(op, (ast.Is, ast.IsNot)) for op in node.ops):
                    self.assertIn(node.comparators[0].value, (None, True, False))

    def test_starred_calls(self):
        for path, tree in self.each():
            for node in ast.walk(tree):
                if isinstance(node, ast.Call):
                    for argument in node.args:
                        if isinstance(argument, ast.Starred):
                            self.assertIsInstance(argument.value, (ast.Name, ast.Attribute), node.lineno)
                            self.assertIn(node.func.id, ("zip", "max", "min"), node.lineno)

    def test_library_calls(self):
        for path, tree in self.each():
            inside = [inner for node in ast.walk(tree) if isinstance(node, ast.GeneratorExp)
                      for inner in ast.walk(node)]
            for node in ast.walk(tree):
                if isinstance(node, ast.Call) and getattr(node.func, "id", "") in ("combinations", "permutations"):
                    self.assertNotIn(node, inside)
                    self.assertIsInstance(node.args[0], ast.Name)

    def test_names(self):
        for path, tree in self.each():
            imported = {alias.name for node in tree.body if isinstance(node, ast.ImportFrom) for alias in node.names}
            classes = {node.name for node in tree.body if isinstance(node, ast.ClassDef)}
            for name in bound_names(tree):
                self.assertNotIn(name, BARRED_NAMES)
                self.assertFalse(hasattr(builtins, name) and name != "__init__", name)
                self.assertTrue(name == "__init__" or not name.startswith("__"), name)
            for node in ast.walk(tree):
                if isinstance(node, ast.arg):
                    self.assertNotIn(node.arg, imported | classes)
                if isinstance(node, ast.Name):
                    if not isinstance(node.ctx, ast.Load):
                        self.assertNotIn(node.id, imported | classes)
                    elif hasattr(builtins, node.id):
                        self.assertIn(node.id, ALLOWED_BUILTINS)
                    else:
                        self.assertNotEqual(node.id, "_")

    def test_words(self):
        for path, tree in self.each():
            for word in BARRED_WORDS:
                self.assertNotRegex(path.read_text(), rf"(?<![A-Za-z0-9_]){re.escape(word)}(?![A-Za-z0-9_])")

    def test_interface_is_defined_in_its_files(self):
        for file, names in INTERFACE.items():
            tree = tree_of(ROOT / f"{file}.py")
            found = {node.name for node in tree.body if isinstance(node, (ast.FunctionDef, ast.ClassDef))}
            self.assertLessEqual(set(names.split()), found)
        for file, classes in METHODS.items():
            for node in tree_of(ROOT / f"{file}.py").body:
                if isinstance(node, ast.ClassDef) and node.name in classes:
                    found = {inner.name for inner in node.body if isinstance(inner, ast.FunctionDef)}
                    self.assertLessEqual(set(classes[node.name].split()), found)

    def test_every_function_tells_what_it_does(self):
        for path, tree in self.each():
            for node in ast.walk(tree):
                if isinstance(node, (ast.FunctionDef, ast.ClassDef, ast.Module)):
                    if getattr(node, "name", "") != "__init__":
                        self.assertTrue(ast.get_docstring(node), getattr(node, "name", path.name))


def defined_in(tree, in_order=False):
    names = []
    for node in tree.body:
        if isinstance(node, (ast.FunctionDef, ast.ClassDef)):
            names.append(node.name)
        elif isinstance(node, ast.Assign):
            names.extend(target.id for target in node.targets)
    return names if in_order else set(names)
