"""The form of the package's code: what of the language's rules a look at each file can tell."""

import ast
import builtins
import os
import unittest

from tests.interface import BOOK_METHODS, INTERFACE

ROOT = os.path.dirname(os.path.dirname(os.path.abspath(__file__)))
PACKAGE = os.path.join(ROOT, "wordsquares")
BUILTINS = set(
    "len range enumerate zip min max sum abs sorted reversed int str bool list tuple dict set isinstance ord repr "
    "any all divmod pow ValueError TypeError KeyError IndexError LookupError ZeroDivisionError".split()
)
LIBRARY = {
    "heapq": {"heappush", "heappop", "heapify", "heapreplace", "heappushpop"},
    "math": {"gcd", "lcm", "isqrt", "comb", "perm", "factorial"},
    "itertools": {
        "product", "combinations", "permutations", "chain", "accumulate", "pairwise", "islice", "zip_longest",
    },
    "collections": {"defaultdict"},
}
METHODS = set(
    "append clear copy count endswith extend find get index insert isalnum isalpha isdigit islower isspace isupper items "
    "join keys ljust lower lstrip partition pop remove replace reverse rfind rjust rpartition rsplit rstrip setdefault "
    "split splitlines startswith strip update upper values zfill bit_length".split()
)
# Some of the words that are no names.
WORDS = {
    "typing", "typing_extensions", "enum", "Enum", "Generic", "Protocol", "ABC", "namedtuple", "NamedTuple",
    "dataclass", "register", "mro", "elements", "open", "input", "law",
}
# Kinds of code that the package does not use at all. Generator expressions are not allowed in most
# places beside a class with ==, as the book is one.
NEVER = (
    ast.Global, ast.AsyncFunctionDef, ast.AsyncFor, ast.AsyncWith, ast.Await, ast.GeneratorExp, ast.Div,
    ast.MatMult, ast.Import,
)


def files():
    """The list of the tuples (module, text, tree) of the package's files."""
    found = []
    for name in sorted(os.listdir(PACKAGE)):
        if name != "__pycache__":
            with open(os.path.join(PACKAGE, name), encoding="utf-8") as file:
                text = file.read()
            module = "wordsquares" if name == "__init__.py" else "wordsquares." + name[:-3]
            found.append((module, text, ast.parse(text)))
    return found


def bound_names(tree):
    """All names that a file gives to anything."""
    found = []
    for node in ast.walk(tree):
        if isinstance(node, (ast.FunctionDef, ast.ClassDef)):
            found.append(node.name)
        elif isinstance(node, ast.arg):
            found.append(node.arg)
        elif isinstance(node, ast.Name) and isinstance(node.ctx, ast.Store):
            found.append(node.id)
    return found


class Files(unittest.TestCase):

    def test_only_python_files_with_plain_names(self):
        for name in os.listdir(PACKAGE):
            if name != "__pycache__":
                self.assertRegex(name, r"^[a-z][a-z0-9_]*\.py$|^__init__\.py$")

    def test_size_and_characters(self):
        for module, text, _ in files():
            lines = text.split("\n")
            self.assertLessEqual(len(lines), 399, module)
            self.assertLessEqual(max(len(line) for line in lines), 120, module)
            self.assertTrue(all(" " <= sign <= "~" or sign == "\n" for sign in text), module)
            self.assertFalse([line for line in lines if line != line.rstrip()], module)

    def test_functions_have_at_most_40_lines(self):
        for module, _, tree in files():
            for node in ast.walk(tree):
                if isinstance(node, ast.FunctionDef):
                    self.assertLessEqual(node.end_lineno - node.lineno + 1, 40, (module, node.name))

    def test_everything_has_a_docstring(self):
        for module, _, tree in files():
            self.assertTrue(ast.get_docstring(tree), module)
            for node in ast.walk(tree):
                if isinstance(node, (ast.FunctionDef, ast.ClassDef)) and node.name != "__init__":
                    self.assertTrue(ast.get_docstring(node), (module, node.name))


class Imports(unittest.TestCase):

    def test_each_import_names_the_file_that_defines_the_name(self):
        trees = {module: tree for module, _, tree in files()}
        for module, tree in trees.items():
            for node in ast.walk(tree):
                if isinstance(node, ast.ImportFrom):
                    names = {alias.name for alias in node.names}
                    self.assertFalse([alias for alias in node.names if alias.asname], module)
                    self.assertEqual(node.level, 0, module)
                    if node.module in LIBRARY:
                        self.assertLessEqual(names, LIBRARY[node.module], module)
                    else:
                        self.assertIn(node.module, trees, module)
                        self.assertLessEqual(names, self.defined(trees[node.module]), module)

    def defined(self, tree):
        found = set()
        for node in tree.body:
            if isinstance(node, (ast.FunctionDef, ast.ClassDef)):
                found.add(node.name)
            elif isinstance(node, ast.Assign):
                found.update(target.id for target in node.targets)
        return found

    def test_each_import_is_used(self):
        for module, _, tree in files():
            used = {node.id for node in ast.walk(tree) if isinstance(node, ast.Name)}
            for node in tree.body:
                if isinstance(node, ast.ImportFrom):
                    self.assertLessEqual({alias.name for alias in node.names}, used, module)

    def test_no_two_files_import_from_each_other(self):
        ahead = {
            module: {node.module for node in tree.body if isinstance(node, ast.ImportFrom)}
            for module, _, tree in files()
        }
        while ahead:
            free = [module for module, needed in ahead.items() if not needed & set(ahead)]
            self.assertTrue(free, ahead)
            ahead = {module: needed for module, needed in ahead.items() if module not in free}

    def test_the_interface_is_defined_where_it_is_listed(self):
        trees = {module: tree for module, _, tree in files()}
        for module, names in INTERFACE.items():
            defined = {node.name for node in trees[module].body if isinstance(node, ast.FunctionDef)}
            self.assertLessEqual(set(names), defined, module)
        book, = [node for node in trees["wordsquares.book"].body if isinstance(node, ast.ClassDef)]
        self.assertEqual(book.name, "FormBook")
        methods = {node.name for node in book.body if isinstance(node, ast.FunctionDef)}
        self.assertEqual(methods, set(BOOK_METHODS) | {"__init__", "__eq__"})


class Code(unittest.TestCase):

    def test_nothing_that_the_package_never_uses(self):
        for module, _, tree in files():
            for node in ast.walk(tree):
                self.assertNotIsInstance(node, NEVER, (module, getattr(node, "lineno", 0)))

    def test_modules_hold_docstrings_imports_functions_classes_and_plain_values(self):
        for module, _, tree in files():
            for node in tree.body:
                told = isinstance(node, ast.Expr) and isinstance(node.value, ast.Constant)
                kinds = (ast.ImportFrom, ast.FunctionDef, ast.ClassDef, ast.Assign)
                self.assertTrue(told or isinstance(node, kinds), (module, node.lineno))
            names = [node.name for node in tree.body if hasattr(node, "name")]
            self.assertEqual(len(names), len(set(names)), module)

    def test_constants(self):
        for module, _, tree in files():
            for node in ast.walk(tree):
                if isinstance(node, ast.Constant):
                    self.assertIn(type(node.value), (int, str, bool, type(None)), (module, node.lineno))
                    if isinstance(node.value, str):
                        self.assertNotIn("%", node.value, (module, node.lineno))

    def test_exponents_are_small_literals(self):
        for module, _, tree in files():
            for node in ast.walk(tree):
                if isinstance(node, ast.BinOp) and isinstance(node.op, ast.Pow):
                    self.assertIsInstance(node.right, ast.Constant, (module, node.lineno))

    def test_only_the_allowed_builtins_are_used(self):
        for module, _, tree in files():
            for node in ast.walk(tree):
                if isinstance(node, ast.Name) and hasattr(builtins, node.id):
                    self.assertIn(node.id, BUILTINS, (module, node.lineno))

    def test_only_the_allowed_methods_are_called(self):
        for module, _, tree in files():
            for node in ast.walk(tree):
                if isinstance(node, ast.Attribute):
                    name = node.value.id if isinstance(node.value, ast.Name) else None
                    own = name == "self" or name in ("book", "other") and module == "wordsquares.book"
                    self.assertTrue(own or node.attr in METHODS, (module, node.lineno))

    def test_attributes_are_not_methods_and_begin_with_an_underscore(self):
        for module, _, tree in files():
            for node in ast.walk(tree):
                if isinstance(node, ast.Attribute) and isinstance(node.ctx, ast.Store):
                    self.assertTrue(module == "wordsquares.errors" or node.attr[0] == "_", (module, node.lineno))
                    self.assertFalse(module != "wordsquares.errors" and node.attr in BOOK_METHODS)

    def test_what_the_library_gives_is_iterated_at_once(self):
        for module, _, tree in files():
            imported = {
                alias.name for node in tree.body if isinstance(node, ast.ImportFrom) and node.module == "itertools"
                for alias in node.names
            }
            right = {
                id(node.iter) for node in ast.walk(tree) if isinstance(node, (ast.For, ast.comprehension))
            }
            for node in ast.walk(tree):
                if isinstance(node, ast.Call) and isinstance(node.func, ast.Name) and node.func.id in imported:
                    self.assertIn(id(node), right, (module, node.lineno))

    def test_no_name_is_that_of_a_builtin_an_import_or_a_barred_word(self):
        for module, _, tree in files():
            imported = {
                alias.name for node in tree.body if isinstance(node, ast.ImportFrom) for alias in node.names
            }
            for name in bound_names(tree):
                if name not in ("__init__", "__eq__"):
                    self.assertFalse(hasattr(builtins, name), (module, name))
                    self.assertNotIn(name, imported, module)
                    self.assertNotIn(name, WORDS, module)
                    self.assertFalse(name.startswith("__"), (module, name))

    def test_sets_stand_in_sorted_or_len_or_behind_in(self):
        for module, _, tree in files():
            for node in ast.walk(tree):
                for child in ast.iter_child_nodes(node):
                    if isinstance(child, (ast.Set, ast.SetComp)):
                        right = isinstance(node, ast.Call) and node.func.id in ("sorted", "len")
                        self.assertTrue(right or isinstance(node, ast.Compare), (module, child.lineno))


if __name__ == "__main__":
    unittest.main()
