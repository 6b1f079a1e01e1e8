"""The rules of the language that a reading of the files can show, and the interface's places and names."""

import ast
import builtins
import inspect
import unittest
from importlib import import_module
from pathlib import Path

FOLDER = Path(__file__).resolve().parent.parent / "lookstop"
FILES = sorted(FOLDER.glob("*.py"))

# What each file of the interface defines: functions with their parameters, classes with their own methods.
FUNCTIONS = {
    "ratios": {
        "ratio": "(num, den=1)",
        "add": "(*terms)",
        "multiply": "(*factors)",
        "subtract": "(a, b)",
        "divide": "(a, b)",
        "compare": "(a, b)",
        "midpoint": "(a, b)",
        "is_share": "(value)",
    },
    "signs": {
        "sign_row": "(poly, low, high)",
        "sign_changes": "(row)",
        "split_square": "(poly)",
        "is_certificate": "(poly, low, high, certificate)",
        "decide": "(poly, low, high)",
        "sign_map": "(poly, low, high, narrow)",
        "crossings": "(poly, low, high)",
        "crossing_stretches": "(poly, low, high, narrow)",
        "greatest": "(poly, low, high, narrow)",
    },
    "words": {
        "at_least": "(share)",
        "below": "(share)",
        "read_word": "(word)",
        "is_wrong": "(word, share)",
    },
    "bounds": {
        "wrong_at": "(table, share)",
        "wrong_pieces": "(table)",
        "wrong_at_most": "(table, bound)",
        "length_at_most": "(table, bound)",
        "worst_wrong": "(table, narrow)",
        "fitting_shares": "(table, word, bound, narrow)",
    },
    "pairs": {
        "compare_lengths": "(first, second)",
        "compare_wrongs": "(first, second)",
        "never_worse": "(first, second)",
        "all_say": "(word, *tables)",
        "any_says": "(word, *tables)",
    },
    "wishers": {
        "greatest_wished": "(table, word, *, skips=0, early=False)",
        "harm": "(table, word, *, skips=0, early=False)",
    },
    "moving": {
        "greatest_moving": "(table, word, low, high)",
        "least_moving": "(table, word, low, high)",
    },
    "plans": {
        "plan": "(tries, least, low, high)",
        "curtailed": "(tries, least, low, high)",
        "plan_risks": "(tries, least, low, high)",
        "least_plan": "(low, high, first, second, *, most=12)",
    },
    "back": {
        "likelihood": "(ends)",
        "likeliest": "(ends)",
        "likely_shares": "(ends, part, narrow)",
    },
    "notation": {
        "write_table": "(table)",
        "read_table": "(text)",
    },
}
CLASSES = {
    "errors": {
        "StopError": (), "InvalidRatio": (), "InvalidStretch": (), "NotExact": (), "InvalidWord": (),
        "InvalidTable": (), "InvalidRing": (), "Endless": (), "InvalidText": (), "InvalidResult": (),
        "TrialOver": (), "NothingToUndo": (), "NothingToRedo": (), "OverBudget": (),
    },
    "polys": {
        "Poly": ("of", "path", "degree", "derivative", "__len__", "__repr__", "__getitem__", "__call__", "__iter__",
                 "__add__", "__radd__", "__sub__", "__rsub__", "__mul__", "__rmul__", "__floordiv__", "__pow__",
                 "__neg__", "__eq__", "__le__", "__ge__"),
    },
    "tables": {
        "Table": ("__init__", "LONGEST", "words", "rule", "word_at", "is_end", "ways", "ends", "chance", "chances",
                  "mean_cost", "mean_length", "with_look", "without_look", "__len__", "__contains__", "__eq__"),
    },
    "rings": {
        "Ring": ("__init__", "MOST", "race", "solution", "chance", "lengths", "mean_length", "chance_at_most"),
    },
    "trials": {
        "Trial": ("__init__", "wins", "losses", "tries", "verdict", "table", "record", "undo", "redo", "history",
                  "change_table", "leads", "remaining", "remaining_length", "fork", "replay", "__len__"),
        "PaidTrial": ("__init__", "paid", "budget", "record", "redo", "change_table", "change_budget", "fork"),
    },
}
# The parameters of methods whose callers may name them.
METHODS = {
    ("polys", "Poly"): {"of": "(coefs)", "path": "(wins, losses)", "derivative": "(self)"},
    ("tables", "Table"): {
        "__init__": "(self, limit, looks, rule)", "rule": "(self)", "word_at": "(self, wins, losses)",
        "is_end": "(self, wins, losses)", "ways": "(self, wins, losses)", "ends": "(self)", "chance": "(self, word)",
        "chances": "(self)", "mean_cost": "(self, *, per_try=1, per_look=0)", "mean_length": "(self)",
        "with_look": "(self, tries)", "without_look": "(self, tries)",
    },
    ("rings", "Ring"): {
        "__init__": "(self, rows, *, start=0)", "race": "(lead, lag, first, second)", "solution": "(self, word)",
        "chance": "(self, word)", "lengths": "(self)", "mean_length": "(self)",
        "chance_at_most": "(self, word, bound, low, high)",
    },
    ("trials", "Trial"): {
        "__init__": "(self, table)", "record": "(self, results)", "undo": "(self)", "redo": "(self)",
        "history": "(self)", "change_table": "(self, table)", "leads": "(self)", "remaining": "(self, word)",
        "remaining_length": "(self)", "fork": "(self)", "replay": "(table, steps)",
    },
    ("trials", "PaidTrial"): {
        "__init__": "(self, table, budget, *, per_try=1, per_look=0)", "record": "(self, results)", "redo": "(self)",
        "change_table": "(self, table)", "change_budget": "(self, budget)", "fork": "(self)", "undo": "(self)",
        "replay": "(table, steps)",
    },
}
# The properties of each class, and whether they may be assigned.
PROPERTIES = {
    ("polys", "Poly"): {"degree": False},
    ("tables", "Table"): {"words": False},
    ("trials", "Trial"): {"wins": False, "losses": False, "tries": False, "verdict": False, "table": True},
    ("trials", "PaidTrial"): {"paid": False, "budget": True},
}

LIBRARY = {
    "math": {"gcd", "lcm", "isqrt", "comb", "perm", "factorial"},
}
BUILTINS = set("""len range enumerate zip min max sum abs sorted reversed int str bool bytes list tuple dict set
    frozenset isinstance ord repr any all divmod iter next map Exception ValueError TypeError KeyError IndexError
    LookupError ZeroDivisionError ArithmeticError OverflowError RuntimeError NotImplementedError AttributeError
    NotImplemented property staticmethod classmethod super""".split())
STATEMENTS = (ast.Assign, ast.AugAssign, ast.If, ast.While, ast.For, ast.Return, ast.Break, ast.Continue, ast.Pass,
              ast.Raise, ast.Assert, ast.Delete, ast.Expr, ast.FunctionDef, ast.ClassDef, ast.ImportFrom, ast.Try,
              ast.ExceptHandler)
NAMES_BARRED = set("""register mro elements open input law version_info with_traceback add_note type typing enum
    getattr setattr hasattr delattr globals locals vars dir eval exec compile id help exit quit hash""".split())


def tree_of(file):
    return ast.parse(file.read_text(encoding="ascii"))


def is_power_not_written_out(node):
    """Tell whether a node is a power whose exponent is not a literal integer from 0 to 64."""
    if isinstance(node, ast.BinOp):
        exponent = node.right
    elif isinstance(node, ast.AugAssign):
        exponent = node.value
    else:
        return False
    if not isinstance(node.op, ast.Pow):
        return False
    written_out = isinstance(exponent, ast.Constant) and type(exponent.value) is int and 0 <= exponent.value <= 64
    return not written_out


def is_plain_number(node):
    """Tell whether a node is plainly a number: a literal, the call of a builtin that gives one, or a sum of such."""
    if isinstance(node, ast.BinOp):
        return is_plain_number(node.left) and is_plain_number(node.right)
    if isinstance(node, ast.Call):
        return isinstance(node.func, ast.Name) and node.func.id in ("len", "int", "ord")
    return isinstance(node, ast.Constant) and type(node.value) is int


def own_imports(file):
    return [node.module.split(".")[1] for node in ast.walk(tree_of(file))
            if isinstance(node, ast.ImportFrom) and node.module.startswith("lookstop.")]


def names_defined(file):
    """The names that a file itself binds: its functions, its classes and its plain values."""
    names = set()
    for node in tree_of(file).body:
        if isinstance(node, (ast.FunctionDef, ast.ClassDef)):
            names.add(node.name)
        elif isinstance(node, ast.Assign):
            names |= {target.id for target in node.targets}
    return names


class FilesTest(unittest.TestCase):
    def test_the_folder_contains_python_files_only(self):
        names = [path.name for path in FOLDER.iterdir() if path.name != "__pycache__"]
        self.assertEqual(sorted(names), [file.name for file in FILES])

    def test_characters_and_sizes(self):
        for file in FILES:
            data = file.read_bytes()
            self.assertTrue(all(byte == 10 or 32 <= byte <= 126 for byte in data), file.name)
            lines = data.decode("ascii").split("\n")
            self.assertLessEqual(len(lines) - 1, 399, file.name)
            self.assertLessEqual(max(map(len, lines)), 120, file.name)
            for node in ast.walk(tree_of(file)):
                if isinstance(node, ast.FunctionDef):
                    self.assertLessEqual(node.end_lineno - node.lineno + 1, 40, f"{file.name}: {node.name}")

    def test_module_level(self):
        for file in FILES:
            body = tree_of(file).body
            for at, node in enumerate(body):
                is_docstring = at == 0 and isinstance(node, ast.Expr) and isinstance(node.value, ast.Constant)
                allowed = (ast.ImportFrom, ast.FunctionDef, ast.ClassDef, ast.Assign)
                self.assertTrue(is_docstring or isinstance(node, allowed), f"{file.name}:{node.lineno}")


class ImportsTest(unittest.TestCase):
    def test_only_the_package_and_the_library(self):
        for file in FILES:
            for node in ast.walk(tree_of(file)):
                self.assertNotIsInstance(node, ast.Import, file.name)
                if not isinstance(node, ast.ImportFrom):
                    continue
                self.assertEqual(node.level, 0, file.name)
                names = {alias.name for alias in node.names}
                if node.module in LIBRARY:
                    self.assertLessEqual(names, LIBRARY[node.module], file.name)
                    self.assertTrue(all(alias.asname is None for alias in node.names), file.name)
                    continue
                folder, name = node.module.split(".")
                self.assertEqual(folder, "lookstop")
                self.assertLessEqual(names, names_defined(FOLDER / f"{name}.py"), f"{file.name} imports from {name}")

    def test_every_import_is_used(self):
        for file in FILES:
            tree = tree_of(file)
            used = {node.id for node in ast.walk(tree) if isinstance(node, ast.Name)}
            for node in ast.walk(tree):
                if isinstance(node, ast.ImportFrom):
                    self.assertLessEqual({alias.asname or alias.name for alias in node.names}, used, file.name)

    def test_no_two_files_import_from_each_other(self):
        imports = {file.stem: own_imports(file) for file in FILES}
        done = []
        while len(done) < len(imports):
            ready = [name for name in imports if name not in done and all(part in done for part in imports[name])]
            self.assertTrue(ready, sorted(set(imports) - set(done)))
            done += ready


class CodeTest(unittest.TestCase):
    def every_node(self):
        for file in FILES:
            for node in ast.walk(tree_of(file)):
                yield f"{file.name}:{getattr(node, 'lineno', 0)}", node

    def test_statements(self):
        for place, node in self.every_node():
            if isinstance(node, (ast.stmt, ast.ExceptHandler)):
                self.assertIsInstance(node, STATEMENTS, place)

    def test_no_floats(self):
        for place, node in self.every_node():
            self.assertNotIsInstance(node, ast.Div, place)
            if isinstance(node, ast.Constant):
                self.assertNotIsInstance(node.value, (float, complex), place)

    def test_strings(self):
        for place, node in self.every_node():
            if isinstance(node, ast.Constant) and isinstance(node.value, str):
                self.assertNotIn(chr(37), node.value, place)

    def test_exponents_are_written_out(self):
        for place, node in self.every_node():
            self.assertFalse(is_power_not_written_out(node), place)

    def test_what_counts_as_an_exponent_that_is_not_written_out(self):
        for line in ("den ** max(0, degree)", "2 ** n", "x ** -1", "x ** 65", "x ** True", "x ** 2 ** n", "n **= k",
                     "n **= 65", "x ** (1 + 1)", "x ** '2'", "Poly(0, 1) ** len(rows)"):
            self.assertTrue(any(is_power_not_written_out(node) for node in ast.walk(ast.parse(line))), line)
        for line in ("x ** 0", "x ** 2", "2 ** 64", "((x + 1) ** 3) ** 2", "n **= 2", "n * k", "f(**more)",
                     "def __pow__(self, other): return power(self, other)"):
            self.assertFalse(any(is_power_not_written_out(node) for node in ast.walk(ast.parse(line))), line)

    def test_builtins(self):
        for place, node in self.every_node():
            if isinstance(node, ast.Name) and hasattr(builtins, node.id):
                self.assertIn(node.id, BUILTINS, place)

    def test_names(self):
        for place, node in self.every_node():
            names = []
            if isinstance(node, ast.Name) and isinstance(node.ctx, ast.Store):
                names = [node.id]
            elif isinstance(node, ast.arg):
                names = [node.arg]
            elif isinstance(node, (ast.FunctionDef, ast.ClassDef)):
                names = [node.name]
            for name in names:
                self.assertNotIn(name, NAMES_BARRED, place)
                self.assertFalse(hasattr(builtins, name) and not name.startswith("__"), place)

    def test_no_name_of_an_import_or_class_is_bound_again(self):
        for file in FILES:
            tree = tree_of(file)
            taken = {alias.name for node in tree.body if isinstance(node, ast.ImportFrom) for alias in node.names}
            taken |= {node.name for node in tree.body if isinstance(node, ast.ClassDef)}
            for node in ast.walk(tree):
                if isinstance(node, ast.Name) and isinstance(node.ctx, ast.Store):
                    self.assertNotIn(node.id, taken, f"{file.name}:{node.lineno}")
                if isinstance(node, ast.arg):
                    self.assertNotIn(node.arg, taken, f"{file.name}:{node.lineno}")

    def test_in_place_signs_take_literal_integers(self):
        # Beside a class with `__radd__` nothing else is added in place in what an operator runs.
        for place, node in self.every_node():
            if isinstance(node, ast.AugAssign):
                self.assertIsInstance(node.value, ast.Constant, place)
                self.assertIsInstance(node.value.value, int, place)

    def test_what_is_put_in_order_is_plainly_numbers(self):
        # Polynomials have an order of their own, which none of these may meet.
        for place, node in self.every_node():
            if isinstance(node, ast.Call) and isinstance(node.func, ast.Name):
                self.assertNotEqual(node.func.id, "sorted", place)
                if node.func.id in ("min", "max"):
                    self.assertTrue(len(node.args) > 1 and any(map(is_plain_number, node.args)), place)
            if isinstance(node, ast.Attribute):
                self.assertNotEqual(node.attr, "sort", place)

    def test_generators_are_iterated_at_once(self):
        nodes = list(self.every_node())
        names = {node.name for _, node in nodes if isinstance(node, ast.FunctionDef)
                 for part in ast.walk(node) if isinstance(part, (ast.Yield, ast.YieldFrom))}
        self.assertEqual(names, {"chances", "leads"})
        at_once = [node.iter for _, node in nodes if isinstance(node, (ast.For, ast.comprehension))]
        for place, node in nodes:
            if isinstance(node, ast.Call) and isinstance(node.func, ast.Attribute) and node.func.attr in names:
                self.assertTrue(any(node is part for part in at_once), place)

    def test_super_calls_a_method_in_a_method(self):
        for place, node in self.every_node():
            if isinstance(node, ast.Attribute) and isinstance(node.value, ast.Call):
                called = node.value.func
                if isinstance(called, ast.Name) and called.id == "super":
                    self.assertEqual(node.value.args, [], place)
                    self.assertFalse(node.attr.startswith("_"), place)

    def test_names_with_underscores(self):
        barred = ("_wall", "_WallAttr", "_pe_", "_dcw_", "_enum_", "_cm_", "_twin_re_", "_lay_", "_law_", "_stub_",
                  "_sre")
        whole = ("_cold", "_tuplegetter", "_outside", "_record", "_written_out", "_member_names")
        for place, node in self.every_node():
            for name in [getattr(node, field, None) for field in ("id", "attr", "arg", "name")]:
                if isinstance(name, str):
                    self.assertFalse(name.startswith(barred), place)
                    self.assertNotIn(name.rstrip("_0123456789"), whole, place)

    def test_no_generator_expressions(self):
        # Beside a class with `__eq__`, `any`, `sum` and the like take lists.
        for place, node in self.every_node():
            self.assertNotIsInstance(node, ast.GeneratorExp, place)


class InterfaceTest(unittest.TestCase):
    def test_functions(self):
        for name, functions in FUNCTIONS.items():
            module = import_module(f"lookstop.{name}")
            for function, parameters in functions.items():
                made = getattr(module, function)
                self.assertEqual(made.__module__, f"lookstop.{name}")
                self.assertEqual(str(inspect.signature(made)), parameters, function)

    def test_classes(self):
        for name, classes in CLASSES.items():
            module = import_module(f"lookstop.{name}")
            for cls, methods in classes.items():
                made = getattr(module, cls)
                self.assertEqual(made.__module__, f"lookstop.{name}")
                for method in methods:
                    self.assertIn(method, vars(made), f"{cls}.{method}")

    def test_methods(self):
        for (name, cls), methods in METHODS.items():
            made = getattr(import_module(f"lookstop.{name}"), cls)
            for method, parameters in methods.items():
                self.assertEqual(str(inspect.signature(getattr(made, method))), parameters, method)

    def test_properties(self):
        for (name, cls), properties in PROPERTIES.items():
            made = vars(getattr(import_module(f"lookstop.{name}"), cls))
            found = {part: value.fset is not None for part, value in made.items() if isinstance(value, property)}
            self.assertEqual(found, properties, cls)

    def test_class_and_static_methods(self):
        for name, cls, method, kind in (("polys", "Poly", "of", classmethod), ("polys", "Poly", "path", classmethod),
                                        ("rings", "Ring", "race", classmethod),
                                        ("trials", "Trial", "replay", staticmethod)):
            self.assertIsInstance(vars(getattr(import_module(f"lookstop.{name}"), cls))[method], kind, method)


if __name__ == "__main__":
    unittest.main()
