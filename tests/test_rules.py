"""That the package keeps to its subset of Python. What is judged here is narrower than LANGUAGE.md:
what the package does not use (generators, lambdas, try, with, decorators ..) is not let at all."""

import ast
import builtins
import functools
import os
import re
import sys
import unittest

import coverjoin

FOLDER = os.path.dirname(os.path.abspath(coverjoin.__file__))

NODES = """Module Expr Constant ImportFrom alias FunctionDef ClassDef arguments arg Return Assign AugAssign If For While
Break Continue Pass Raise Delete Del BinOp UnaryOp BoolOp Compare IfExp Call keyword Attribute Subscript Slice Name Load Store Tuple
List Dict ListComp SetComp DictComp GeneratorExp comprehension JoinedStr FormattedValue Add Sub Mult FloorDiv Mod Pow LShift
RShift BitAnd BitOr BitXor Invert USub Not And Or Eq NotEq Lt LtE Gt GtE Is IsNot In NotIn""".split()

# Builtins that are called, and how many arguments by position they take here.
CALLED = {"len": (1, 1), "range": (1, 3), "enumerate": (1, 1), "zip": (2, 9), "min": (1, 9), "max": (1, 9),
          "sum": (1, 1), "abs": (1, 1), "sorted": (1, 1), "reversed": (1, 1), "list": (0, 1), "tuple": (0, 1),
          "dict": (0, 1), "set": (0, 1), "isinstance": (2, 2), "any": (1, 1), "all": (1, 1), "divmod": (2, 2),
          "str": (1, 1), "int": (1, 1)}

METHODS = """append clear copy count extend find get index insert items join keys pop remove reverse setdefault update values
bit_length add discard split""".split()

LIBRARY = {"math": ("gcd", "lcm", "isqrt", "comb", "perm", "factorial")}

WORDS = """register mro elements open input law version_info with_traceback add_note type typing typing_extensions enum Enum
IntEnum StrEnum Flag IntFlag Generic Protocol ABC ABCMeta namedtuple NamedTuple TypedDict TYPE_CHECKING abstractmethod""".split()

NAMES = """attrgetter breakpoint builtins compile copyright credits delattr dir eval exec exit gc getattr globals hasattr help
id importlib license locals methodcaller os quit setattr super type vars sys""".split()

SPECIAL = ("__init__", "__contains__")


def files():
    return sorted(os.listdir(FOLDER))


def read(name):
    with open(os.path.join(FOLDER, name), encoding="utf-8") as file:
        return file.read()


@functools.cache
def trees():
    return {name: ast.parse(read(name)) for name in files() if name.endswith(".py")}


def parents_of(tree):
    return {child: node for node in ast.walk(tree) for child in ast.iter_child_nodes(node)}


def functions_of(tree):
    return [node for node in ast.walk(tree) if isinstance(node, ast.FunctionDef)]


def bound(node):
    """The names that parameters, assignments, loops and comprehensions below a node bind."""
    names = [inner.id for inner in ast.walk(node) if isinstance(inner, ast.Name) and isinstance(inner.ctx, ast.Store)]
    return names + [inner.arg for inner in ast.walk(node) if isinstance(inner, ast.arg)]


def is_call_of(node, *names):
    return isinstance(node, ast.Call) and isinstance(node.func, ast.Name) and node.func.id in names


class TestRules(unittest.TestCase):

    def everywhere(self):
        for name, tree in trees().items():
            parents = parents_of(tree)
            for node in ast.walk(tree):
                yield f"{name}:{getattr(node, 'lineno', 0)}", node, parents

    def test_files(self):
        self.assertIn("__init__.py", files())
        for name in files():
            if name != "__pycache__":
                self.assertRegex(name, r"^[a-z_]+\.py$")
                word = name[:-3]
                self.assertFalse(word in dir(builtins) or word in sys.stdlib_module_names or word.startswith("test"))
                self.assertNotIn(word, WORDS + NAMES)

    def test_lines_and_characters(self):
        for name in trees():
            text = read(name)
            self.assertLessEqual(text.count("\n"), 399, name)
            self.assertRegex(text, r"^[ -~\n]*$", name)
            for at, line in enumerate(text.split("\n"), 1):
                self.assertLessEqual(len(line), 120, f"{name}:{at}")
                self.assertEqual(line, line.rstrip(), f"{name}:{at}")

    def test_functions_are_small(self):
        for name, tree in trees().items():
            for function in functions_of(tree):
                self.assertLessEqual(function.end_lineno - function.lineno + 1, 40, f"{name}:{function.name}")

    def test_only_these_kinds_of_code(self):
        for where, node, parents in self.everywhere():
            self.assertIn(node.__class__.__name__, NODES, where)
            if isinstance(node, ast.Constant):
                self.assertIn(node.value.__class__, (int, str, bool, type(None)), where)
            if isinstance(node, (ast.FunctionDef, ast.ClassDef)):
                self.assertEqual(node.decorator_list, [], where)
                self.assertNotIsInstance(parents[node], ast.FunctionDef, where)
            if isinstance(node, ast.FunctionDef):
                self.assertIsNone(node.returns, where)
                self.assertIsNone(node.args.vararg or node.args.kwarg, where)
            if isinstance(node, ast.arg):
                self.assertIsNone(node.annotation, where)
            if isinstance(node, ast.Expr):
                self.assertIsInstance(node.value, (ast.Constant, ast.Call), where)
            if isinstance(node, (ast.For, ast.While)):
                self.assertEqual(node.orelse, [], where)

    def test_module_level(self):
        for name, tree in trees().items():
            seen = []
            for at, node in enumerate(tree.body):
                where = f"{name}:{node.lineno}"
                self.assertIsInstance(node, (ast.Expr, ast.ImportFrom, ast.FunctionDef, ast.ClassDef, ast.Assign), where)
                if isinstance(node, ast.Expr):
                    self.assertTrue(at == 0 and isinstance(node.value, ast.Constant), where)
                if isinstance(node, ast.Assign):
                    self.assertTrue(len(node.targets) == 1 and isinstance(node.targets[0], ast.Name), where)
                    for inner in ast.walk(node.value):
                        self.assertIsInstance(inner, (ast.Constant, ast.BinOp, ast.operator, ast.Tuple, ast.Load), where)
                    seen.append(node.targets[0].id)
                if isinstance(node, (ast.FunctionDef, ast.ClassDef)):
                    seen.append(node.name)
                if isinstance(node, ast.ImportFrom):
                    seen.extend(alias.name for alias in node.names)
            self.assertEqual(len(seen), len(set(seen)), name)

    def test_imports(self):
        ahead = {}
        for name, tree in trees().items():
            ahead[name[:-3]] = set()
            for node in ast.walk(tree):
                if isinstance(node, ast.ImportFrom):
                    where = f"{name}:{node.lineno}"
                    self.assertEqual(node.level, 0, where)
                    self.assertIn(node, tree.body, where)
                    for alias in node.names:
                        self.assertIsNone(alias.asname, where)
                        if node.module in LIBRARY:
                            self.assertIn(alias.name, LIBRARY[node.module], where)
                        else:
                            package, _, other = node.module.partition(".")
                            self.assertEqual(package, "coverjoin", where)
                            ahead[name[:-3]].add(other)
                            defined = [inner.name for inner in trees()[other + ".py"].body if hasattr(inner, "name")]
                            defined += [inner.targets[0].id for inner in trees()[other + ".py"].body
                                        if isinstance(inner, ast.Assign)]
                            self.assertIn(alias.name, defined, where)
        while ahead:
            free = [name for name in ahead if not ahead[name]]
            self.assertTrue(free, "files import from each other")
            ahead = {name: ahead[name] - set(free) for name in ahead if name not in free}

    def test_what_is_imported_is_used(self):
        for name, tree in trees().items():
            used = {node.id for node in ast.walk(tree) if isinstance(node, ast.Name) and isinstance(node.ctx, ast.Load)}
            for node in tree.body:
                if isinstance(node, ast.ImportFrom):
                    for alias in node.names:
                        self.assertIn(alias.name, used, name)

    def test_names(self):
        for name, tree in trees().items():
            taken = [node.name for node in tree.body if isinstance(node, ast.ClassDef)]
            taken += [alias.name for node in tree.body if isinstance(node, ast.ImportFrom) for alias in node.names]
            for function in functions_of(tree):
                for word in bound(function):
                    self.assertNotIn(word, taken, f"{name}:{function.name}")
            defined = bound(tree) + [node.name for node in ast.walk(tree) if hasattr(node, "name") and
                                     isinstance(node, (ast.FunctionDef, ast.ClassDef))]
            for word in defined:
                if word not in SPECIAL:
                    self.assertRegex(word, r"^_?[A-Za-z][A-Za-z0-9_]*$|^_$", name)
                    self.assertNotIn(word, dir(builtins), name)
                    self.assertNotIn(word, WORDS + NAMES, name)
                    self.assertNotRegex(word, r"^_(wall|pe_|dcw_|enum_|cm_|twin_re_|lay_|law_|stub_|sre|WallAttr)", name)
            read_names = {node.id for node in ast.walk(tree) if isinstance(node, ast.Name) and isinstance(node.ctx, ast.Load)}
            self.assertNotIn("_", read_names, name)

    def test_words_that_do_not_occur(self):
        for name in trees():
            for word in ("_wall", "_WallAttr", "dataclass", "overload", "contextmanager", "%r", "\t"):
                self.assertNotIn(word, read(name), name)
        for where, node, _ in self.everywhere():
            if isinstance(node, ast.Attribute):
                self.assertNotIn(node.attr, WORDS + ["format", "format_map"], where)
                self.assertFalse(node.attr.startswith("__"), where)
            if isinstance(node, ast.Constant) and isinstance(node.value, str):
                self.assertNotIn("%", node.value, where)
                self.assertFalse(node.value.startswith("__"), where)

    def test_calls(self):
        for name, tree in trees().items():
            own = {node.name for node in tree.body if hasattr(node, "name")}
            own |= {alias.name for node in tree.body if isinstance(node, ast.ImportFrom) for alias in node.names}
            methods = {function.name for other in trees().values() for function in functions_of(other)}
            for node in ast.walk(tree):
                if isinstance(node, ast.Call):
                    where = f"{name}:{node.lineno}"
                    if isinstance(node.func, ast.Attribute):
                        self.assertTrue(node.func.attr in METHODS or node.func.attr in methods, where)
                        self.assertEqual(node.keywords, [], where)
                    elif node.func.id not in own:
                        low, high = CALLED[node.func.id]
                        self.assertTrue(low <= len(node.args) <= high, where)
                        self.assertLessEqual({word.arg for word in node.keywords}, {"key"}, where)
                if isinstance(node, ast.Name) and isinstance(node.ctx, ast.Load) and hasattr(builtins, node.id):
                    self.assertTrue(node.id in CALLED or node.id in ("bool", "ValueError"), f"{name}:{node.lineno}")

    def test_errors_are_made_on_the_spot(self):
        for where, node, _ in self.everywhere():
            if isinstance(node, ast.Raise):
                self.assertTrue(isinstance(node.exc, ast.Call) and isinstance(node.exc.func, ast.Name), where)
                self.assertIsNone(node.cause, where)
                self.assertEqual((len(node.exc.args), node.exc.keywords), (1, []), where)

    def test_is_and_powers(self):
        for where, node, _ in self.everywhere():
            if isinstance(node, ast.Compare):
                for sign, right in zip(node.ops, node.comparators):
                    if isinstance(sign, (ast.Is, ast.IsNot)):
                        self.assertTrue(isinstance(right, ast.Constant) and right.value in (None, True, False), where)
            if isinstance(node, ast.BinOp) and isinstance(node.op, ast.Pow):
                self.assertTrue(isinstance(node.right, ast.Constant) and 0 <= node.right.value <= 64, where)

    def test_what_is_iterated_at_once(self):
        for where, node, parents in self.everywhere():
            if is_call_of(node, "zip", "enumerate", "range", "reversed") or (
                    isinstance(node, ast.Call) and isinstance(node.func, ast.Attribute) and
                    node.func.attr in ("items", "values", "keys")):
                above = parents[node]
                self.assertTrue((isinstance(above, (ast.For, ast.comprehension)) and above.iter is node) or
                                is_call_of(above, "list", "tuple", "sorted", "sum", "any", "all", "min", "max"), where)
            if isinstance(node, ast.GeneratorExp):
                above = parents[node]
                self.assertTrue(is_call_of(above, "any", "all", "sum", "min", "max", "tuple", "list"), where)
                self.assertEqual(len(above.args), 1, where)

    def test_sets(self):
        for name, tree in trees().items():
            parents = parents_of(tree)
            for function in functions_of(tree):
                for node in ast.walk(function):
                    if is_call_of(node, "set") or isinstance(node, ast.SetComp):
                        above = parents[node]
                        where = f"{name}:{node.lineno}"
                        if isinstance(above, ast.Assign):
                            self.stored_set(where, function, above, parents)
                        else:
                            self.assertTrue(is_call_of(above, "sorted", "len") and not above.keywords, where)

    def stored_set(self, where, function, assignment, parents):
        """A name that is assigned once, and else stands only behind `in` or `not in`."""
        word = assignment.targets[0].id
        self.assertEqual(bound(function).count(word), 1, where)
        for node in ast.walk(function):
            if isinstance(node, ast.Name) and node.id == word and isinstance(node.ctx, ast.Load):
                above = parents[node]
                self.assertIsInstance(above, ast.Compare, where)
                self.assertTrue(all(isinstance(sign, (ast.In, ast.NotIn)) for sign in above.ops), where)
                self.assertIsNot(above.left, node, where)

    def test_loops_do_not_change_what_they_go_over(self):
        for where, node, _ in self.everywhere():
            if isinstance(node, ast.For) and isinstance(node.iter, ast.Name):
                for inner in ast.walk(node):
                    if isinstance(inner, ast.Call) and isinstance(inner.func, ast.Attribute):
                        changes = inner.func.attr in ("append", "extend", "pop", "insert", "remove", "clear", "update")
                        self.assertFalse(changes and ast.dump(inner.func.value) == ast.dump(node.iter), where)
                    if isinstance(inner, ast.Name) and isinstance(inner.ctx, ast.Store):
                        self.assertNotEqual(inner.id, node.iter.id, where)

    def test_classes(self):
        for where, node, parents in self.everywhere():
            if isinstance(node, ast.ClassDef):
                self.assertRegex(node.name, r"^[A-Za-z]", where)
                self.assertLessEqual(len(node.bases), 1, where)
                for inner in node.body:
                    self.assertIsInstance(inner, (ast.FunctionDef, ast.Expr), where)
                methods = [inner.name for inner in node.body if isinstance(inner, ast.FunctionDef)]
                self.assertEqual(len(methods), len(set(methods)), where)
                held = {inner.attr for inner in ast.walk(node) if isinstance(inner, ast.Attribute) and
                        isinstance(inner.ctx, ast.Store)}
                self.assertFalse(held & set(methods), where)
            if isinstance(node, ast.FunctionDef) and node.name.startswith("__"):
                self.assertIn(node.name, SPECIAL, where)
                self.assertIsInstance(parents[node], ast.ClassDef, where)

    def test_operators_change_nothing(self):
        for where, node, _ in self.everywhere():
            if isinstance(node, ast.FunctionDef) and node.name == "__contains__":
                for inner in ast.walk(node):
                    self.assertNotIsInstance(inner, (ast.Assign, ast.AugAssign), where)
                    if isinstance(inner, ast.Call):
                        self.assertIn(inner.func.id, ("isinstance", "is_number"), where)

    def test_all_text_is_read_the_same(self):
        for name in trees():
            self.assertFalse(re.search(r"\\[^n\\\"']", read(name)), name)


if __name__ == "__main__":
    unittest.main()
