"""The interface at the end of the document, and the plainest rules for the files of the package."""

import ast
import builtins
import importlib
import inspect
import pathlib
import unittest
import warnings

PACKAGE = pathlib.Path(__file__).resolve().parent.parent / "handlebends"

INTERFACE = {
    "errors": {"BendError": None, "InvalidBend": ["word"], "InvalidText": ["at"], "InvalidTime": ["time"],
               "InvalidPieces": ["at"], "InvalidPoints": ["at"], "InvalidCommand": [], "Unlike": [], "Kink": ["time"],
               "NoMark": ["time"], "Refused": ["at"]},
    "bends": {"Bend": ["degree", "marks", "handles"], "value": ["bend", "time"],
              "weights": ["degree", "marks", "time"], "reach": ["degree", "marks", "i"], "homes": ["bend"]},
    "marks": {"with_mark": ["bend", "time"], "without_mark": ["bend", "time"], "raised": ["bend"], "lowered": ["bend"],
              "cut": ["bend", "time"], "least": ["bend"], "same": ["p", "q"], "joined": ["p", "q"]},
    "pieces": {"pieces": ["bend"], "from_pieces": ["rows"], "smoothness": ["bend", "time"]},
    "sums": {"plus": ["p", "q"], "minus": ["p", "q"], "product": ["p", "q"], "scaled": ["bend", "number"],
             "slope": ["bend"], "area": ["bend"], "area_to": ["bend"]},
    "zeros": {"sign_row": ["bend"], "crossings": ["bend"], "touches": ["bend"], "places": ["bend"],
              "places_hold": ["bend", "value"], "first_zero": ["bend", "near"]},
    "deciding": {"is_above": ["p", "q"], "never_below": ["p", "q"], "below_at": ["p", "q"], "rises": ["bend"],
                 "rises_always": ["bend"], "bends_up": ["bend"], "least_within": ["bend", "near"]},
    "papers": {"cover": ["bend"], "cover_holds": ["bend", "value"], "count": ["bend"],
               "count_holds": ["bend", "value"]},
    "points": {"can_pass": ["degree", "marks", "times"], "passing": ["degree", "marks", "times", "heights"],
               "barred": ["degree", "marks", "times"], "bar_holds": ["degree", "marks", "times", "value"]},
    "nearest": {"least_miss": ["degree", "marks", "points"], "nearest": ["degree", "marks", "points"],
                "weighing": ["degree", "marks", "points", "value"],
                "weighing_holds": ["degree", "marks", "points", "value", "paper"]},
    "movers": {"Mover": ["x", "y"], "apart": ["one", "other"], "never_nearer": ["one", "other", "distance"],
               "nearer_at": ["one", "other", "distance"], "meetings": ["one", "other"]},
    "live": {"Live": ["bend"]},
    "desk": {"Desk": []},
}
# The methods of each class, with their arguments behind the object where they have a name in the document.
METHODS = {
    ("bends", "Bend"): {"__init__": None, "read": None, "__len__": None, "__eq__": None, "__str__": None},
    ("movers", "Mover"): {"__init__": None},
    ("live", "Live"): {"__init__": None, "__len__": None, "bend": None, "signs": None, "pull": ["at", "height"],
                       "several": ["pulls"], "mark": ["time"], "unmark": ["time"], "undo": [], "within": ["work"]},
    ("desk", "Desk"): {"__init__": None, "say": ["command"]},
}
LIBRARY = {"math": {"gcd", "lcm", "isqrt", "comb", "perm", "factorial"}}


def trees():
    """The files of the package and what they say."""
    return {path: ast.parse(path.read_text("utf-8")) for path in sorted(PACKAGE.glob("*.py"))}


class Interface(unittest.TestCase):
    def test_defined_in_its_file(self):
        for module, names in INTERFACE.items():
            tree = ast.parse((PACKAGE / f"{module}.py").read_text("utf-8"))
            defined = [node.name for node in tree.body if isinstance(node, (ast.FunctionDef, ast.ClassDef))]
            for name in names:
                self.assertEqual(defined.count(name), 1, name)

    def test_arguments(self):
        for module, names in INTERFACE.items():
            held = importlib.import_module(f"handlebends.{module}")
            for name, parameters in names.items():
                if parameters is not None:
                    found = inspect.signature(getattr(held, name)).parameters
                    self.assertEqual(list(found), parameters, name)

    def test_methods_stand_in_the_class_itself(self):
        for (module, name), methods in METHODS.items():
            held = vars(getattr(importlib.import_module(f"handlebends.{module}"), name))
            for method, parameters in methods.items():
                self.assertIn(method, held)
                if parameters is not None:
                    self.assertEqual(list(inspect.signature(held[method]).parameters)[1:], parameters, method)
        bend = importlib.import_module("handlebends.bends").Bend
        self.assertIsInstance(vars(bend)["read"], classmethod)
        self.assertEqual(list(inspect.signature(bend.read).parameters), ["text"])

    def test_init_holds_a_docstring_only(self):
        body = ast.parse((PACKAGE / "__init__.py").read_text("utf-8")).body
        self.assertEqual(len(body), 1)
        self.assertIsInstance(body[0].value.value, str)


class Rules(unittest.TestCase):
    def test_folder(self):
        found = [path.name for path in PACKAGE.iterdir() if path.name != "__pycache__"]
        self.assertTrue(all(name.endswith(".py") for name in found), found)

    def test_sizes_and_characters(self):
        for path, tree in trees().items():
            text = path.read_text("utf-8")
            self.assertTrue(all(char == "\n" or " " <= char <= "~" for char in text), path)
            self.assertLessEqual(len(text.splitlines()), 399, path)
            self.assertLessEqual(max(map(len, text.splitlines())), 120, path)
            for node in ast.walk(tree):
                if isinstance(node, ast.FunctionDef):
                    self.assertLessEqual(node.end_lineno - node.lineno + 1, 40, node.name)

    def test_imports(self):
        for path, tree in trees().items():
            for node in ast.walk(tree):
                self.assertNotIsInstance(node, ast.Import, path)
                if isinstance(node, ast.ImportFrom):
                    names = {alias.name for alias in node.names}
                    self.assertTrue(all(alias.asname is None for alias in node.names), path)
                    if node.module in LIBRARY:
                        self.assertLessEqual(names, LIBRARY[node.module], path)
                    else:
                        self.check_own_import(node.module, names)

    def check_own_import(self, module, names):
        folder, file = module.split(".")
        self.assertEqual(folder, "handlebends")
        body = ast.parse((PACKAGE / f"{file}.py").read_text("utf-8")).body
        defined = {node.name for node in body if isinstance(node, (ast.FunctionDef, ast.ClassDef))}
        defined |= {target.id for node in body if isinstance(node, ast.Assign) for target in node.targets}
        self.assertLessEqual(names, defined)

    def test_needs_only_earlier_modules(self):
        order = list(INTERFACE)
        for module in order:
            for needed in self.all_needed(module):
                self.assertTrue(needed not in order or order.index(needed) < order.index(module), (module, needed))

    def all_needed(self, module):
        """The modules of the package that a module imports from, straight or through others."""
        body = ast.parse((PACKAGE / f"{module}.py").read_text("utf-8")).body
        straight = {node.module.split(".")[1] for node in body
                    if isinstance(node, ast.ImportFrom) and node.module.startswith("handlebends.")}
        return straight.union(*[self.all_needed(other) for other in straight])

    def test_names(self):
        """No function, parameter or variable has the name of an import, a class or a builtin."""
        for path, tree in trees().items():
            imports = {alias.name for node in tree.body if isinstance(node, ast.ImportFrom) for alias in node.names}
            classes = {node.name for node in tree.body if isinstance(node, ast.ClassDef)}
            stored = [node for node in ast.walk(tree) if isinstance(node, ast.Name) and isinstance(node.ctx, ast.Store)]
            bound = [node.id for node in stored]
            bound += [node.arg for node in ast.walk(tree) if isinstance(node, ast.arg)]
            bound += [node.name for node in tree.body if isinstance(node, ast.FunctionDef)]
            # An example that was run leaves its value in `_` among the builtins.
            self.assertFalse((set(bound) - {"_"}) & (imports | classes | set(dir(builtins))), path)
            defined = [node.name for node in tree.body if isinstance(node, (ast.FunctionDef, ast.ClassDef))]
            self.assertEqual(len(defined), len(set(defined)), path)

    def test_all_imports_are_used(self):
        for path, tree in trees().items():
            imports = {alias.name for node in tree.body if isinstance(node, ast.ImportFrom) for alias in node.names}
            used = {node.id for node in ast.walk(tree) if isinstance(node, ast.Name)}
            self.assertLessEqual(imports, used, path)

    def test_no_warnings(self):
        with warnings.catch_warnings():
            warnings.simplefilter("error")
            for path in trees():
                compile(path.read_text("utf-8"), str(path), "exec")

    def test_no_floats_and_no_state(self):
        for path, tree in trees().items():
            for node in ast.walk(tree):
                self.assertNotIsInstance(node, (ast.Div, ast.Global, ast.GeneratorExp), path)
                if isinstance(node, ast.Constant):
                    self.assertNotIsInstance(node.value, (float, complex), path)


if __name__ == "__main__":
    unittest.main()
