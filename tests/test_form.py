"""The form of the code: those rules of LANGUAGE.md that a file can be asked for by itself."""

import ast
import builtins
import pathlib
import unittest

PACKAGE = pathlib.Path(__file__).resolve().parent.parent / "sideswaps"
FILES = sorted(PACKAGE.rglob("*.py"))
LIBRARY = {
    "math": {"gcd", "lcm", "isqrt", "comb", "perm", "factorial"}, "itertools": {"product", "combinations", "permutations"},
}
BUILTINS = set(
    "len range enumerate zip min max sum abs sorted reversed int str bool bytes list tuple dict set isinstance ord repr "
    "any all divmod ValueError KeyError ZeroDivisionError".split()
)
METHODS = set(
    "append clear copy count endswith extend find get index insert isalnum isalpha isdigit islower isspace isupper items "
    "join keys ljust lower lstrip partition pop remove replace reverse rfind rjust rpartition rsplit rstrip setdefault "
    "split splitlines startswith strip update upper values zfill bit_length add discard".split()
)
BARRED = (ast.GeneratorExp, ast.Global, ast.AsyncFunctionDef, ast.Await, ast.AnnAssign, ast.Import, ast.Div)


def nodes_of(path):
    return list(ast.walk(ast.parse(path.read_text())))


def bound_names(nodes):
    """All names that parameters, variables and nested functions of a file have."""
    names = [node.arg for node in nodes if isinstance(node, ast.arg)]
    return names + [node.id for node in nodes if isinstance(node, ast.Name) and isinstance(node.ctx, ast.Store)]


def own_methods():
    """The names of the methods of all classes of the package."""
    classes = [node for path in FILES for node in nodes_of(path) if isinstance(node, ast.ClassDef)]
    return {node.name for each in classes for node in each.body if isinstance(node, ast.FunctionDef)}


OWN_METHODS = own_methods()


class FormTest(unittest.TestCase):
    def test_folder(self):
        for path in PACKAGE.rglob("*"):
            if "__pycache__" not in path.parts:
                self.assertEqual(path.suffix, ".py", path)
                self.assertNotIn(path.stem, dir(builtins))

    def test_sizes_and_signs(self):
        for path in FILES:
            text = path.read_text()
            lines = text.split("\n")
            self.assertLessEqual(len(lines), 400, path)
            self.assertTrue(all(len(line) <= 120 for line in lines), path)
            self.assertTrue(all(sign == "\n" or " " <= sign <= "~" for sign in text), path)
            for node in nodes_of(path):
                if isinstance(node, ast.FunctionDef):
                    self.assertLessEqual(node.end_lineno - node.lineno + 1, 40, (path, node.name))

    def test_module_level(self):
        for path in FILES:
            for node in ast.parse(path.read_text()).body:
                self.assertIsInstance(node, (ast.Expr, ast.ImportFrom, ast.FunctionDef, ast.ClassDef, ast.Assign))
                if isinstance(node, (ast.Expr, ast.Assign)):
                    self.assertIsInstance(node.value, ast.Constant, path)

    def test_imports(self):
        for path in FILES:
            for node in nodes_of(path):
                if isinstance(node, ast.ImportFrom):
                    self.assertEqual(node.level, 0)
                    names = {each.name for each in node.names}
                    self.assertTrue(all(each.asname is None for each in node.names))
                    if not node.module.startswith("sideswaps."):
                        self.assertLessEqual(names, LIBRARY[node.module], path)
                        continue
                    defined = ast.parse((PACKAGE / (node.module.split(".")[1] + ".py")).read_text()).body
                    there = {each.name for each in defined if hasattr(each, "name")}
                    there |= {each.targets[0].id for each in defined if isinstance(each, ast.Assign)}
                    self.assertLessEqual(names, there, path)

    def test_no_round_of_imports(self):
        needs = {
            path.stem: {node.module.split(".")[-1] for node in nodes_of(path) if isinstance(node, ast.ImportFrom)
                        and node.module.startswith("sideswaps.")} for path in FILES
        }
        while needs:
            free = [name for name, wanted in needs.items() if not wanted & set(needs)]
            self.assertTrue(free, needs)
            for name in free:
                del needs[name]

    def test_names(self):
        for path in FILES:
            nodes = nodes_of(path)
            taken = {each.name for node in nodes if isinstance(node, ast.ImportFrom) for each in node.names}
            taken |= {node.name for node in nodes if isinstance(node, ast.ClassDef)}
            for name in bound_names(nodes):
                self.assertNotIn(name, taken, path)
                self.assertNotIn(name, dir(builtins), path)
            for node in nodes:
                if isinstance(node, ast.FunctionDef):
                    self.assertNotIn(node.name, dir(builtins), path)
                if isinstance(node, ast.Name) and node.id in dir(builtins):
                    self.assertIn(node.id, BUILTINS, path)

    def test_statements(self):
        for path in FILES:
            for node in nodes_of(path):
                self.assertNotIsInstance(node, BARRED, path)
                if isinstance(node, ast.Constant):
                    self.assertIsInstance(node.value, (int, str, type(None)), path)
                    self.assertNotIn("%", str(node.value), path)
                if isinstance(node, ast.BinOp) and isinstance(node.op, ast.Pow):
                    self.assertIsInstance(node.right, ast.Constant, path)
                if isinstance(node, ast.Call) and isinstance(node.func, ast.Attribute):
                    self.assertIn(node.func.attr, METHODS | OWN_METHODS, path)


if __name__ == "__main__":
    unittest.main()
