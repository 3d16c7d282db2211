"""The rules of LANGUAGE.md that a look at the code can tell."""

import ast
import builtins
import os
import re
import unittest

PACKAGE = os.path.join(os.path.dirname(os.path.dirname(os.path.abspath(__file__))), "joinlags")
ORDER = ["__init__", "errors", "shapes", "nets", "runs", "reach", "judge", "early", "tune", "stops", "tables",
         "chains", "nests", "yard", "texts", "desk"]
BUILTINS = set("""len range enumerate zip min max sum abs sorted reversed int str bool list tuple dict set isinstance
    ord repr any all divmod Exception ValueError TypeError KeyError IndexError LookupError ZeroDivisionError
    ArithmeticError OverflowError RuntimeError NotImplementedError NotImplemented iter next super map""".split())
METHODS = set("""append clear copy count endswith extend find get index insert isalnum isalpha isdigit islower isspace
    isupper items join keys ljust lower lstrip partition pop remove replace reverse rfind rjust rpartition rsplit
    rstrip setdefault split splitlines startswith strip update upper values zfill bit_length add discard
    __init__""".split())
SPECIAL = set("""__init__ __eq__ __repr__ __str__ __len__ __enter__ __exit__ __call__ __iter__ __lt__ __le__ __gt__
    __ge__ __ne__ __add__ __sub__ __mul__ __and__ __or__ __xor__ __iadd__ __isub__ __neg__ __pos__ __invert__ __abs__
    __bool__ __contains__ __getitem__ __setitem__""".split())
# The rules let generator expressions and decorators be, in places; this program does without.
BARRED = (ast.AsyncFunctionDef, ast.Await, ast.Global, ast.Div, ast.GeneratorExp)
LIBRARY = {"heapq", "math", "itertools", "collections"}


def files():
    return sorted(name for name in os.listdir(PACKAGE) if name != "__pycache__")


def source_of(name):
    with open(os.path.join(PACKAGE, name), encoding="utf-8") as file:
        return file.read()


def trees():
    return {name[:-3]: ast.parse(source_of(name)) for name in files()}


def functions_in(tree):
    return [node for node in ast.walk(tree) if isinstance(node, ast.FunctionDef)]


class LanguageTest(unittest.TestCase):

    def test_files(self):
        for name in files():
            self.assertRegex(name, r"^[a-z_][a-z0-9_]*\.py$")
            self.assertIn(name[:-3], ORDER)

    def test_lines_and_characters(self):
        for name in files():
            text = source_of(name)
            self.assertEqual(re.sub(r"[ -~\n]", "", text), "", name)
            lines = text.split("\n")
            self.assertLessEqual(len(lines) - 1, 399, name)
            self.assertLessEqual(max(len(line) for line in lines), 120, name)

    def test_size_of_functions(self):
        for name, tree in trees().items():
            for node in functions_in(tree):
                self.assertLessEqual(node.end_lineno - node.lineno + 1, 40, (name, node.name))

    def test_module_level(self):
        for name, tree in trees().items():
            self.assertTrue(ast.get_docstring(tree), name)
            for node in tree.body[1:]:
                self.assertIsInstance(node, (ast.ImportFrom, ast.FunctionDef, ast.ClassDef, ast.Assign), name)
                if isinstance(node, ast.Assign):
                    ast.literal_eval(node.value)

    def test_imports(self):
        defined = {name: [node.name for node in tree.body if hasattr(node, "name")] for name, tree in trees().items()}
        for name, tree in trees().items():
            for node in ast.walk(tree):
                self.assertNotIsInstance(node, ast.Import)
                if not isinstance(node, ast.ImportFrom) or node.module in LIBRARY:
                    continue
                package, _, module = node.module.partition(".")
                self.assertEqual((package, node.level), ("joinlags", 0))
                self.assertLess(ORDER.index(module), ORDER.index(name))
                for alias in node.names:
                    self.assertIn(alias.name, defined[module])
                    self.assertIsNone(alias.asname)

    def test_nodes(self):
        for name, tree in trees().items():
            for node in ast.walk(tree):
                self.assertNotIsInstance(node, BARRED, (name, getattr(node, "lineno", None)))
                self.assertFalse(isinstance(node, ast.Constant) and isinstance(node.value, (float, complex)), name)
                if isinstance(node, (ast.FunctionDef, ast.ClassDef)):
                    self.assertEqual(node.decorator_list, [], name)

    def test_in_place_signs(self):
        # Where a class has +=, it is easiest to see what happens if nothing else has.
        for name, tree in trees().items():
            for node in ast.walk(tree):
                if isinstance(node, ast.AugAssign):
                    self.assertIsInstance(node.value, ast.Constant, (name, node.lineno))

    def test_names(self):
        for name, tree in trees().items():
            inside = [node.id for node in ast.walk(tree) if isinstance(node, ast.Name)
                      and isinstance(node.ctx, ast.Store)]
            inside += [node.arg for node in ast.walk(tree) if isinstance(node, ast.arg)]
            imported = [alias.name for node in tree.body if isinstance(node, ast.ImportFrom) for alias in node.names]
            classes = [node.name for node in tree.body if isinstance(node, ast.ClassDef)]
            for word in inside + [node.name for node in tree.body if hasattr(node, "name")]:
                self.assertRegex(word, r"^(_|_?[A-Za-z][A-Za-z0-9_]*)$", name)
                self.assertFalse(hasattr(builtins, word), (name, word))
            self.assertEqual(sorted(set(inside) & set(imported + classes)), [], name)

    def test_what_is_called(self):
        own = {node.name for tree in trees().values() for node in functions_in(tree)}
        for name, tree in trees().items():
            known = {alias.name for node in tree.body if isinstance(node, ast.ImportFrom) for alias in node.names}
            known |= {node.name for node in tree.body if hasattr(node, "name")} | BUILTINS
            for node in ast.walk(tree):
                if isinstance(node, ast.Call) and isinstance(node.func, ast.Attribute):
                    self.assertIn(node.func.attr, METHODS | own, name)
                elif isinstance(node, ast.Call):
                    self.assertIn(node.func.id, known, name)

    def test_double_underscores(self):
        for name, tree in trees().items():
            for node in functions_in(tree):
                if node.name.startswith("__"):
                    self.assertIn(node.name, SPECIAL, name)

    def test_lengths_are_lengths(self):
        for name, tree in trees().items():
            for node in functions_in(tree):
                if node.name == "__len__":
                    for part in ast.walk(node):
                        if isinstance(part, ast.Return):
                            self.assertEqual(part.value.func.id, "len", name)

    def test_methods_and_attributes_have_different_names(self):
        for name, tree in trees().items():
            for node in [node for node in tree.body if isinstance(node, ast.ClassDef)]:
                methods = {part.name for part in node.body if isinstance(part, ast.FunctionDef)}
                stored = {part.attr for part in ast.walk(node) if isinstance(part, ast.Attribute)
                          and isinstance(part.ctx, ast.Store)}
                self.assertEqual(methods & stored, set(), (name, node.name))

    def test_strings(self):
        for name, tree in trees().items():
            for node in ast.walk(tree):
                if isinstance(node, ast.Constant) and isinstance(node.value, str):
                    self.assertNotIn(chr(37), node.value, name)

    def test_sets_are_only_measured_or_compared(self):
        for name, tree in trees().items():
            for node in ast.walk(tree):
                if isinstance(node, ast.Call) and getattr(node.func, "id", None) in ("len", "sorted"):
                    node.args = [part for part in node.args if not is_set(part)]
            for node in ast.walk(tree):
                self.assertFalse(is_set(node), (name, getattr(node, "lineno", None)))


def is_set(node):
    """Whether a node makes a set."""
    if isinstance(node, (ast.Set, ast.SetComp)):
        return True
    return isinstance(node, ast.Call) and getattr(node.func, "id", None) == "set"


if __name__ == "__main__":
    unittest.main()
