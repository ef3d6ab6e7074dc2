"""Rules of the language that a reading of the source can judge: files, imports, sizes, names."""

import ast
import os
import unittest
import warnings

PACKAGE = os.path.join(os.path.dirname(os.path.dirname(os.path.abspath(__file__))), "weightwebs")

LIBRARY = {
    "heapq": ("heappush", "heappop", "heapify", "heapreplace", "heappushpop"),
    "math": ("gcd", "lcm", "isqrt", "comb", "perm", "factorial"),
    "itertools": (
        "product", "combinations", "permutations", "chain", "accumulate", "pairwise", "islice", "zip_longest",
    ),
    "collections": ("defaultdict", "deque"),
}

BUILTINS = set(
    "len range enumerate zip min max sum abs sorted reversed int str bool bytes list tuple dict set frozenset "
    "isinstance ord repr any all divmod pow getattr hasattr setattr iter next map type Exception ValueError "
    "TypeError KeyError IndexError LookupError ZeroDivisionError ArithmeticError OverflowError RuntimeError "
    "NotImplementedError AttributeError StopIteration NotImplemented".split()
)

BARRED = (
    ast.AsyncFunctionDef, ast.AsyncFor, ast.AsyncWith, ast.Await, ast.Div, ast.Is, ast.IsNot,
)


def sources():
    found = {}
    for name in sorted(os.listdir(PACKAGE)):
        if name != "__pycache__":
            with open(os.path.join(PACKAGE, name), encoding="utf-8") as file:
                found[name] = file.read()
    return found


def imports(tree):
    return [node for node in ast.walk(tree) if isinstance(node, (ast.Import, ast.ImportFrom))]


def bound_names(tree):
    found = []
    for node in ast.walk(tree):
        if isinstance(node, (ast.FunctionDef, ast.ClassDef)):
            found.append(node.name)
        elif isinstance(node, ast.Name) and isinstance(node.ctx, ast.Store):
            found.append(node.id)
        elif isinstance(node, ast.arg):
            found.append(node.arg)
    return found


COMPREHENSIONS = (ast.ListComp, ast.DictComp, ast.SetComp, ast.GeneratorExp)

CHANGES = ("append", "extend", "insert", "pop", "remove", "clear", "update", "setdefault", "sort", "reverse",
           "add", "discard")


def names_in(node):
    return {part.id for part in ast.walk(node) if isinstance(part, ast.Name)}


def own_targets(comprehension):
    return {name for generator in comprehension.generators for name in names_in(generator.target)}


def stored_names(node):
    """The names that a function assigns itself, those of its comprehensions left out."""
    if isinstance(node, COMPREHENSIONS):
        return set()
    found = {node.id} if isinstance(node, ast.Name) and isinstance(node.ctx, ast.Store) else set()
    found |= {node.arg} if isinstance(node, ast.arg) else set()
    return found.union(*[stored_names(part) for part in ast.iter_child_nodes(node)])


def changed_names(nodes):
    """The names of the lists and dicts that some statements change."""
    found = set()
    for node in [part for node in nodes for part in ast.walk(node)]:
        if isinstance(node, ast.Call) and isinstance(node.func, ast.Attribute) and node.func.attr in CHANGES:
            found |= names_in(node.func.value)
        if isinstance(node, ast.Subscript) and not isinstance(node.ctx, ast.Load):
            found |= names_in(node.value)
    return found


class Language(unittest.TestCase):
    def test_files(self):
        self.assertIn("__init__.py", sources())
        for name in sources():
            self.assertRegex(name, r"^[a-z_][a-z0-9_]*\.py$")

    def test_characters_and_sizes(self):
        for name, text in sources().items():
            with self.subTest(name=name):
                self.assertTrue(all(sign == "\n" or " " <= sign <= "~" for sign in text))
                self.assertLessEqual(len(text.splitlines()), 399)
                self.assertLessEqual(max(len(line) for line in text.splitlines()), 120)
                for node in ast.walk(ast.parse(text)):
                    if isinstance(node, ast.FunctionDef):
                        self.assertLessEqual(node.end_lineno - node.lineno + 1, 40, node.name)

    def test_no_warnings(self):
        with warnings.catch_warnings():
            warnings.simplefilter("error")
            for name, text in sources().items():
                compile(text, name, "exec")

    def test_imports(self):
        files = {name[:-3] for name in sources()}
        for name, text in sources().items():
            for node in imports(ast.parse(text)):
                with self.subTest(name=name, line=node.lineno):
                    self.assertIsInstance(node, ast.ImportFrom)
                    self.assertEqual(node.level, 0)
                    self.assertTrue(all(alias.asname is None for alias in node.names))
                    if node.module in LIBRARY:
                        self.assertTrue(all(alias.name in LIBRARY[node.module] for alias in node.names))
                    else:
                        package, file = node.module.split(".")
                        self.assertEqual(package, "weightwebs")
                        self.assertIn(file, files)

    def test_no_two_files_import_from_each_other(self):
        ahead = {
            name[:-3]: {
                node.module.split(".")[1] for node in imports(ast.parse(text)) if node.module not in LIBRARY
            }
            for name, text in sources().items()
        }
        while ahead:
            ready = [name for name, needed in ahead.items() if not needed & set(ahead)]
            self.assertTrue(ready, ahead)
            for name in ready:
                del ahead[name]

    def test_an_import_brings_what_its_file_defines(self):
        defined = {}
        for name, text in sources().items():
            tree = ast.parse(text)
            defined["weightwebs." + name[:-3]] = {
                target.id for node in tree.body if isinstance(node, ast.Assign) for target in node.targets
            } | {node.name for node in tree.body if isinstance(node, (ast.FunctionDef, ast.ClassDef))}
        for name, text in sources().items():
            for node in imports(ast.parse(text)):
                if node.module not in LIBRARY:
                    self.assertLessEqual({alias.name for alias in node.names}, defined[node.module])

    def test_only_the_allowed_builtins(self):
        others = set(dir(__builtins__) if not isinstance(__builtins__, dict) else __builtins__) - BUILTINS
        for name, text in sources().items():
            for node in ast.walk(ast.parse(text)):
                if isinstance(node, ast.Name):
                    self.assertFalse(node.id in others, (name, node.lineno, node.id))

    def test_names(self):
        builtin_names = set(dir(__builtins__) if not isinstance(__builtins__, dict) else __builtins__)
        for name, text in sources().items():
            tree = ast.parse(text)
            classes_and_imports = {node.name for node in tree.body if isinstance(node, ast.ClassDef)}
            classes_and_imports |= {alias.name for node in imports(tree) for alias in node.names}
            for bound in bound_names(tree):
                if bound != "__init__":
                    self.assertFalse(bound in builtin_names, (name, bound))
                    self.assertRegex(bound, r"^(_|_?[A-Za-z][A-Za-z0-9_]*)$")
            stored = [node.id for node in ast.walk(tree)
                      if isinstance(node, ast.Name) and isinstance(node.ctx, ast.Store)]
            stored += [node.arg for node in ast.walk(tree) if isinstance(node, ast.arg)]
            self.assertFalse(classes_and_imports & set(stored), name)

    def test_a_loop_does_not_change_what_its_head_names(self):
        for name, text in sources().items():
            for node in ast.walk(ast.parse(text)):
                if isinstance(node, ast.For):
                    copied = isinstance(node.iter, ast.Call) and names_in(node.iter.func) & {"list", "sorted"}
                    if not copied:
                        self.assertFalse(names_in(node.iter) & changed_names(node.body), (name, node.lineno))

    def test_names_of_inner_comprehensions(self):
        for name, text in sources().items():
            for function in ast.walk(ast.parse(text)):
                if isinstance(function, ast.FunctionDef):
                    outside = stored_names(function)
                    for outer in ast.walk(function):
                        if isinstance(outer, COMPREHENSIONS):
                            self.check_inner(outer, outside | own_targets(outer), name)

    def check_inner(self, outer, outside, name):
        for inner in ast.walk(outer):
            if isinstance(inner, COMPREHENSIONS) and inner is not outer:
                self.assertFalse((own_targets(inner) - {"_"}) & outside, (name, inner.lineno))

    def test_words_that_are_not_used(self):
        barred = set(
            "register mro elements open input law version_info with_traceback add_note attrgetter breakpoint "
            "builtins compile copyright credits delattr dir eval exec exit gc globals help id importlib license "
            "locals methodcaller os quit super sys vars typing enum Enum Generic Protocol ABC namedtuple".split()
        )
        for name, text in sources().items():
            for node in ast.walk(ast.parse(text)):
                word = getattr(node, "id", getattr(node, "arg", getattr(node, "attr", getattr(node, "name", None))))
                self.assertNotIn(word, barred, (name, node))

    def test_no_barred_signs(self):
        for name, text in sources().items():
            for node in ast.walk(ast.parse(text)):
                if isinstance(node, ast.Compare):
                    for operator, side in zip(node.ops, node.comparators):
                        if isinstance(operator, (ast.Is, ast.IsNot)):
                            self.assertIsInstance(side, ast.Constant, (name, node.lineno))
                elif not isinstance(node, (ast.Is, ast.IsNot)):
                    self.assertNotIsInstance(node, BARRED, name)
                if isinstance(node, ast.Constant):
                    self.assertNotIsInstance(node.value, (float, complex), (name, node.lineno))
                if isinstance(node, ast.FunctionDef):
                    self.assertEqual(node.decorator_list, [], (name, node.lineno))
