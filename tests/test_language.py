"""What can be seen mechanically of the language of the package and of its interface."""

import ast
import builtins
import unittest
from pathlib import Path

FOLDER = Path(__file__).resolve().parent.parent / "leaprules"
FILES = {path.stem: path.read_text(encoding="utf-8") for path in sorted(FOLDER.glob("*.py"))}
TREES = {name: ast.parse(text) for name, text in FILES.items()}

LIBRARY = {"math": {"gcd", "lcm", "isqrt", "comb", "perm", "factorial"}}
BUILTINS = set("""len range enumerate zip min max sum abs sorted reversed int str bool list tuple dict set isinstance
    ord repr any all divmod ValueError TypeError KeyError IndexError ZeroDivisionError NotImplemented super
    property""".split())
METHODS = set("""append clear copy count endswith extend find get index insert isalnum isalpha isdigit items join keys
    ljust lower lstrip partition pop remove replace reverse rfind rjust rpartition rsplit rstrip setdefault split
    splitlines startswith strip update upper values zfill bit_length add discard""".split())
STATEMENTS = (ast.Assign, ast.AugAssign, ast.If, ast.While, ast.For, ast.Return, ast.Break, ast.Continue, ast.Pass,
              ast.Raise, ast.Assert, ast.Delete, ast.Try, ast.Expr, ast.FunctionDef, ast.ClassDef, ast.ImportFrom)
NO_EXPRESSIONS = (ast.Await, ast.Starred, ast.NamedExpr, ast.Set, ast.Div, ast.MatMult)

INTERFACE = {
    "errors": {"RuleError": [], "InvalidDivisors": [], "InvalidEntries": [], "InvalidAnswers": [], "InvalidNumber": [],
               "InvalidForm": [], "TooLarge": [], "NoNumber": [], "NothingToUndo": [], "IsPeriod": ["__init__"],
               "InvalidText": ["__init__"]},
    "forms": {"Form": ["__init__", "divisors", "__call__", "__len__", "__contains__", "__xor__", "__and__", "__or__",
                       "__invert__", "__eq__", "scaled", "spread"]},
    "rules": {"form_of": None, "text_in": None},
    "compare": {"first_difference": None, "within": None, "least_outside": None},
    "periods": {"period": None, "is_period": None, "broken": None, "shows_broken": None},
    "answers": {"wanted": None, "has_divisor": None, "form_by": None, "HiddenForm": ["__init__", "ask", "asked"],
                "find": None},
    "counts": {"count_up_to": None, "nth": None, "following": None, "share": None, "chain_with": None},
    "lists": {"Exceptions": ["__init__", "entries", "__call__", "__len__", "__add__", "__eq__", "form", "idle",
                             "turned"],
              "FirstMatch": [], "list_for": None, "longest_chain": None, "shows_bound": None},
    "live": {"RuleBook": ["__init__", "put", "take_out", "ask", "now", "undo", "mark", "undo_to", "__len__", "twin"],
             "FirstBook": []},
    "texts": {"write_list": None, "read_list": None, "write_form": None, "read_form": None},
    "session": {"session": None},
}


def nodes(*kinds):
    """All nodes of some kinds, with the name of their file."""
    return [(name, node) for name, tree in TREES.items() for node in ast.walk(tree) if isinstance(node, kinds)]


def defined_names(tree):
    """What a file defines at module level."""
    found = {node.name for node in tree.body if hasattr(node, "name")}
    return found | {target.id for node in tree.body if isinstance(node, ast.Assign) for target in node.targets}


def bound_names():
    """Every name that is bound somewhere, but for methods and attributes."""
    found = []
    for name, tree in TREES.items():
        methods = [part for node in ast.walk(tree) if isinstance(node, ast.ClassDef) for part in node.body]
        for node in ast.walk(tree):
            if isinstance(node, ast.Name) and not isinstance(node.ctx, ast.Load):
                found.append((name, node.id))
            elif isinstance(node, ast.arg):
                found.append((name, node.arg))
            elif isinstance(node, (ast.FunctionDef, ast.ClassDef)) and node not in methods:
                found.append((name, node.name))
    return found


class Language(unittest.TestCase):
    def test_files(self):
        others = [path.name for path in FOLDER.iterdir() if path.suffix != ".py" and path.name != "__pycache__"]
        self.assertEqual(others, [])
        for name, text in FILES.items():
            self.assertEqual(name, name.lower())
            lines = text.split("\n")
            self.assertLessEqual(len(lines), 400, name)
            self.assertLessEqual(max(len(line) for line in lines), 120, name)
            self.assertTrue(all(" " <= sign <= "~" or sign == "\n" for sign in text), name)

    def test_functions_are_short(self):
        for name, node in nodes(ast.FunctionDef):
            self.assertLessEqual(node.end_lineno - node.lineno + 1, 40, (name, node.name))

    def test_module_level(self):
        for name, tree in TREES.items():
            taken = []
            for node in tree.body[1:]:
                self.assertIsInstance(node, (ast.ImportFrom, ast.FunctionDef, ast.ClassDef, ast.Assign), name)
                if isinstance(node, ast.ImportFrom):
                    taken += [part.asname or part.name for part in node.names]
                elif isinstance(node, ast.Assign):
                    taken += [target.id for target in node.targets]
                else:
                    taken.append(node.name)
            self.assertEqual(len(taken), len(set(taken)), name)

    def test_imports(self):
        before = {}
        for name, node in nodes(ast.ImportFrom):
            self.assertEqual(node.level, 0)
            names = {part.name for part in node.names}
            if node.module in LIBRARY:
                self.assertLessEqual(names, LIBRARY[node.module])
                continue
            package, file = node.module.split(".")
            self.assertEqual(package, "leaprules")
            self.assertLessEqual(names, defined_names(TREES[file]), name)
            before.setdefault(name, set()).add(file)
        done = set()
        while len(done) < len(TREES):
            ready = {name for name in TREES if before.get(name, set()) <= done}
            self.assertGreater(len(ready), len(done), "files import from each other")
            done = ready

    def test_statements_and_expressions(self):
        for name, node in nodes(ast.stmt):
            self.assertIsInstance(node, STATEMENTS, (name, node.lineno))
        for name, node in nodes(*NO_EXPRESSIONS):
            self.fail((name, node))
        for name, node in nodes(ast.FunctionDef, ast.ClassDef):
            for decorator in node.decorator_list:
                self.assertEqual(ast.unparse(decorator), "property")
        for name, node in nodes(ast.Compare):
            if isinstance(node.ops[0], (ast.Is, ast.IsNot)):
                self.assertIn(ast.unparse(node.comparators[0]), ("None", "True", "False"), (name, node.lineno))

    def test_names(self):
        for name, bound in bound_names():
            self.assertFalse(hasattr(builtins, bound), (name, bound))
        known = {bound for _, bound in bound_names()}
        for name, node in nodes(ast.ImportFrom):
            known |= {part.name for part in node.names}
        for name, node in nodes(ast.Name):
            self.assertIn(node.id, known | BUILTINS, (name, node.lineno))

    def test_methods_that_are_called(self):
        own = {node.name for _, node in nodes(ast.FunctionDef)} | {"__init__"}
        # A form that an object keeps may be called.
        own |= {node.attr for _, node in nodes(ast.Attribute) if isinstance(node.ctx, ast.Store)}
        for name, node in nodes(ast.Call):
            if isinstance(node.func, ast.Attribute):
                self.assertIn(node.func.attr, METHODS | own, (name, node.lineno))
            for given in node.args:
                self.assertNotIsInstance(given, ast.GeneratorExp, (name, node.lineno))

    def test_only_own_errors_are_caught(self):
        own = set(INTERFACE["errors"])
        for name, node in nodes(ast.ExceptHandler):
            self.assertIn(ast.unparse(node.type), own, (name, node.lineno))

    def test_module_level_tables_are_only_read_in_place(self):
        for name, tree in TREES.items():
            tables = [node.targets[0].id for node in tree.body if isinstance(node, ast.Assign)
                      and isinstance(node.value, (ast.Dict, ast.List))]
            for node in ast.walk(tree):
                for given in node.args if isinstance(node, ast.Call) else [getattr(node, "value", None)]:
                    if isinstance(given, ast.Name) and not isinstance(node, (ast.Subscript, ast.Attribute)):
                        self.assertNotIn(given.id, tables, (name, node.lineno))

    def test_literals(self):
        for name, node in nodes(ast.Constant):
            self.assertIsInstance(node.value, (int, str, type(None)), (name, node.lineno))
            self.assertNotIn("%", str(node.value), (name, node.lineno))
        for name, node in nodes(ast.BinOp):
            if isinstance(node.op, ast.Pow):
                self.assertIsInstance(node.right, ast.Constant, (name, node.lineno))
                self.assertLessEqual(node.right.value, 64)


class Interface(unittest.TestCase):
    def test_everything_is_defined_in_its_file(self):
        for name, wanted in INTERFACE.items():
            defined = {node.name: node for node in TREES[name].body if hasattr(node, "name")}
            for listed, methods in wanted.items():
                kind = ast.FunctionDef if methods is None else ast.ClassDef
                self.assertIsInstance(defined.get(listed), kind, (name, listed))
                held = [part.name for part in defined[listed].body if hasattr(part, "name")]
                self.assertLessEqual(set(methods or []), set(held), (name, listed))


if __name__ == "__main__":
    unittest.main()
