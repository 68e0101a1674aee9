"""What a look at the source can tell of ../shared/LANGUAGE.md; the rule is named with each check."""

import ast
import builtins
import pathlib
import re
import unittest

PACKAGE = pathlib.Path(__file__).resolve().parent.parent / "thesesothose"
FILES = sorted(path for path in PACKAGE.rglob("*") if "__pycache__" not in path.parts)

BUILTINS = """len range enumerate zip min max sum abs sorted reversed int str bool bytes list tuple dict set isinstance ord
    repr any all divmod ValueError KeyError IndexError LookupError NotImplemented iter next map property super
    """.split()
BARRED = (ast.Global, ast.AsyncFunctionDef, ast.GeneratorExp, ast.Div, ast.Await, ast.Import)
METHODS = """append clear copy count endswith extend find get index insert isalnum isalpha isdigit islower isspace isupper
    items join keys ljust lower lstrip partition pop remove replace reverse rfind rjust rpartition rsplit rstrip
    setdefault split splitlines startswith strip update upper values zfill bit_length isascii add discard""".split()
OPERATORS = """__init__ __eq__ __len__ __iter__ __contains__ __getitem__ __setitem__ __call__ __add__ __or__""".split()
CHANGING = "append clear extend insert pop remove reverse setdefault sort update add discard".split()
WORDS = ["type", "typing", "enum", "Enum", "Meta", "_wall", "dataclass", "overload", "contextmanager"]


def trees():
    return [(path.name, ast.parse(path.read_text())) for path in FILES]


def nodes(kind):
    return [(name, node) for name, tree in trees() for node in ast.walk(tree) if isinstance(node, kind)]


def names_in(node):
    """The names that a value may be: the name itself, an attribute's, or those of a choice or of what is gone over."""
    if isinstance(node, ast.Name):
        return {node.id}
    if isinstance(node, ast.Attribute):
        return {node.attr}
    if isinstance(node, ast.IfExp):
        return names_in(node.body) | names_in(node.orelse)
    if isinstance(node, ast.BoolOp):
        return set().union(*[names_in(part) for part in node.values])
    if isinstance(node, ast.Call) and isinstance(node.func, ast.Attribute) and node.func.attr in ("items", "values"):
        return names_in(node.func.value)
    if isinstance(node, ast.Call) and getattr(node.func, "id", "") in ("enumerate", "zip", "reversed"):
        return set().union(*[names_in(part) for part in node.args])
    return set()


def with_other_names(names, function):
    """The names, and all that stand for the same by a plain assignment in the function, whatever its place."""
    pairs = [(names_in(target), names_in(node.value)) for node in ast.walk(function) if isinstance(node, ast.Assign)
             for target in node.targets]
    known = set(names)
    while any((one & known) and not two <= known or (two & known) and not one <= known for one, two in pairs):
        for one, two in pairs:
            if (one | two) & known and one and two:
                known |= one | two
    return known


def changed_in(rows):
    """The names of what is changed in some rows."""
    names = set()
    for node in [part for row in rows for part in ast.walk(row)]:
        if isinstance(node, ast.Call) and isinstance(node.func, ast.Attribute) and node.func.attr in CHANGING:
            names |= names_in(node.func.value)
        if isinstance(node, ast.Subscript) and not isinstance(node.ctx, ast.Load):
            names |= names_in(node.value)
        if isinstance(node, ast.AugAssign):
            names |= names_in(node.target)
    return names


class TestLanguage(unittest.TestCase):

    def test_files(self):  # L1, L10, L14, L17
        self.assertGreater(len(FILES), 1)
        for path in FILES:
            self.assertRegex(path.name, r"^[a-z0-9_]+\.py$")
            text = path.read_text()
            self.assertLessEqual(text.count("\n"), 399, path.name)
            self.assertTrue(all(sign == "\n" or " " <= sign <= "~" for sign in text), path.name)
            self.assertLessEqual(max([len(line) for line in text.split("\n")]), 120, path.name)
            self.assertFalse(set(WORDS) & set(re.findall(r"\w+", text)), path.name)

    def test_functions_are_short(self):  # L10
        for name, node in nodes(ast.FunctionDef):
            self.assertLessEqual(node.end_lineno - node.lineno + 1, 40, f"{name} {node.name}")

    def test_imports(self):  # L2, L16
        tops = {name: [node.name for node in tree.body if hasattr(node, "name")] for name, tree in trees()}
        for name, node in nodes(ast.ImportFrom):
            self.assertEqual(node.level, 0)
            package, file = node.module.split(".")
            self.assertEqual(package, "thesesothose", name)
            for alias in node.names:
                self.assertIsNone(alias.asname)
                self.assertIn(alias.name, tops[file + ".py"])

    def test_no_circles(self):  # L16
        uses = {name: [] for name, _ in trees()}
        for name, node in nodes(ast.ImportFrom):
            uses[name].append(node.module.split(".")[1] + ".py")
        done = set()
        while len(done) < len(uses):
            free = [name for name in uses if name not in done and done.issuperset(uses[name])]
            self.assertTrue(free, f"in a circle: {sorted(set(uses) - done)}")
            done.update(free)

    def test_module_level(self):  # L3, L5
        for name, tree in trees():
            for node in tree.body[1:]:
                self.assertIsInstance(node, (ast.ImportFrom, ast.FunctionDef, ast.ClassDef, ast.Assign), name)
        for name, node in nodes(ast.ClassDef):
            self.assertFalse(node.decorator_list)

    def test_what_does_not_stand(self):  # L6, L7
        for kind in BARRED:
            self.assertEqual([name for name, _ in nodes(kind)], [], kind)
        for name, node in nodes(ast.Constant):
            self.assertNotIsInstance(node.value, (float, complex))
            if isinstance(node.value, str):
                self.assertNotIn("%", node.value, name)

    def test_builtins(self):  # L8, L15
        known = [name for name in dir(builtins) if not name.startswith("_")]
        for name, node in nodes(ast.Name):
            if node.id in known:
                self.assertIn(node.id, BUILTINS, f"{name} {node.lineno}")
                self.assertIsInstance(node.ctx, ast.Load, f"{name} {node.lineno}")
        for name, node in nodes(ast.arg):
            self.assertNotIn(node.arg, known, f"{name} {node.lineno}")
        for name, tree in trees():
            for node in tree.body:
                self.assertNotIn(getattr(node, "name", ""), known, name)

    def test_no_name_of_an_import_or_a_class_is_taken(self):  # L15
        for name, tree in trees():
            taken = [alias.name for node in tree.body if isinstance(node, ast.ImportFrom) for alias in node.names]
            taken += [node.name for node in tree.body if isinstance(node, ast.ClassDef)]
            for node in ast.walk(tree):
                if isinstance(node, ast.arg):
                    self.assertNotIn(node.arg, taken, name)
                if isinstance(node, ast.Name) and isinstance(node.ctx, ast.Store):
                    self.assertNotIn(node.id, taken, name)

    def test_methods(self):  # L5, L25
        own = [method.name for _, node in nodes(ast.ClassDef) for method in node.body if hasattr(method, "name")]
        for name in own:
            self.assertTrue(not name.startswith("__") or name in OPERATORS, name)
        for name, node in nodes(ast.Call):
            if isinstance(node.func, ast.Attribute):
                self.assertIn(node.func.attr, METHODS + own, f"{name} {node.lineno}")

    def test_what_a_loop_walks_is_not_changed_in_it(self):  # L5, L23
        for name, function in nodes(ast.FunctionDef):
            for loop in [node for node in ast.walk(function) if isinstance(node, ast.For)]:
                walked = with_other_names(names_in(loop.iter), function)
                self.assertEqual(walked & changed_in(loop.body), set(), f"{name} {loop.lineno}")

    def test_a_finally_only_puts_names_back(self):  # L6
        for name, node in nodes(ast.Try):
            for row in node.finalbody:
                self.assertIsInstance(row, ast.Assign, name)
                kinds = {type(part) for part in ast.walk(row)}
                self.assertLessEqual(kinds, {ast.Assign, ast.Tuple, ast.Name, ast.Attribute, ast.Load, ast.Store}, name)

    def test_what_is_caught_and_raised(self):  # L19
        own = [node.name for name, node in nodes(ast.ClassDef) if name == "errors.py"]
        for name, node in nodes(ast.ExceptHandler):
            self.assertIn(getattr(node.type, "id", None), own, name)
        for name, node in nodes(ast.Raise):
            self.assertIn(getattr(getattr(node.exc, "func", None), "id", None), own, name)

    def test_names_are_bound_once(self):  # L15, L18
        for _, node in nodes((ast.Module, ast.ClassDef)):
            names = [part.name for part in node.body if hasattr(part, "name")]
            self.assertEqual(len(names), len(set(names)))


if __name__ == "__main__":
    unittest.main()
