"""The form of the package's own files: some of the rules of LANGUAGE.md, those that are plain to read off a file."""

import ast
import builtins
import os
import re
import unittest

FOLDER = os.path.join(os.path.dirname(os.path.dirname(os.path.abspath(__file__))), "digbook")

STATEMENTS = (ast.Assign, ast.AugAssign, ast.If, ast.While, ast.For, ast.Return, ast.Break, ast.Continue, ast.Pass,
              ast.Raise, ast.Try, ast.Expr, ast.FunctionDef, ast.ClassDef, ast.ImportFrom)
EXPRESSIONS = (ast.Constant, ast.Name, ast.List, ast.Tuple, ast.Dict, ast.Set, ast.BinOp, ast.UnaryOp, ast.BoolOp,
               ast.Compare, ast.IfExp, ast.Call, ast.Attribute, ast.Subscript, ast.Slice, ast.ListComp, ast.JoinedStr,
               ast.FormattedValue, ast.Lambda)
BUILTINS = """len range enumerate zip min max sum abs sorted reversed int str bool list tuple dict set frozenset
    isinstance ord repr any all divmod Exception ValueError TypeError KeyError IndexError LookupError
    ZeroDivisionError ArithmeticError OverflowError RuntimeError NotImplementedError AttributeError
    StopIteration""".split()
METHODS = """append clear copy count endswith extend find get index insert isalnum isalpha isdigit islower isspace
    isupper items join keys ljust lower lstrip partition pop remove replace reverse rfind rjust rpartition rsplit
    rstrip setdefault split splitlines startswith strip update upper values zfill bit_length""".split()
DUNDERS = ("__init__", "__eq__", "__repr__", "__str__", "__len__")
WORDS_OUT = re.compile(r"\b(type|typing|typing_extensions|enum|Enum|IntEnum|StrEnum|Flag|IntFlag|Generic|Protocol|ABC|"
                       r"ABCMeta|namedtuple|NamedTuple|TypedDict|TYPE_CHECKING|abstractmethod)\b|"
                       r"dataclass|overload|contextmanager")
WALKERS = "list tuple dict sorted sum any all enumerate zip min max .join".split()
NAMES_OUT = "register mro elements open input version_info with_traceback add_note format format_map".split()
NOT_KEPT = "items keys values pop update append clear extend insert remove reverse setdefault sort args encode".split()


def package_files():
    return sorted(os.listdir(FOLDER))


def sources():
    for name in package_files():
        if name.endswith(".py"):
            with open(os.path.join(FOLDER, name), encoding="utf-8") as source:
                yield name, source.read()


def nodes():
    """Each node of each file, with the file's name and the node's line for the message."""
    for name, text in sources():
        for node in ast.walk(ast.parse(text)):
            yield node, f"{name}:{getattr(node, 'lineno', 0)}"


def is_docstring(node, tree):
    return bool(tree.body) and node is tree.body[0] and isinstance(node.value, ast.Constant)


def own_attributes():
    """The methods and the values of all classes of the package."""
    methods, values = set(), set()
    for node, _ in nodes():
        if isinstance(node, ast.ClassDef):
            methods.update(part.name for part in node.body if isinstance(part, ast.FunctionDef))
        if isinstance(node, ast.Attribute) and isinstance(node.ctx, ast.Store):
            values.add(node.attr)
    return methods, values


def nodes_with_parents():
    """As nodes, and each node has the one that it stands in as its value parent."""
    for name, text in sources():
        for parent in ast.walk(ast.parse(text)):
            for node in ast.iter_child_nodes(parent):
                node.parent = parent
                yield node, f"{name}:{getattr(node, 'lineno', 0)}"


def called(node):
    """What a call calls: a name, or a method's name behind a point; None of what is no call."""
    if not isinstance(node, ast.Call):
        return None
    return "." + node.func.attr if isinstance(node.func, ast.Attribute) else getattr(node.func, "id", None)


class Files(unittest.TestCase):
    def test_nothing_but_plain_files(self):
        for name in package_files():
            if name != "__pycache__":
                self.assertRegex(name, r"^([a-z][a-z0-9_]*|__init__)\.py$")
                self.assertNotIn(name[:-3], vars(builtins), name)
                self.assertNotRegex(name, r"^(test|testing|tests|test_.*|site|conftest)\.py$")

    def test_size_and_signs(self):
        for name, text in sources():
            self.assertRegex(text, r"\A[ -~\n]*\Z", name)
            self.assertLessEqual(len(text.splitlines()), 400, name)
            self.assertLessEqual(max(len(line) for line in text.splitlines()), 120, name)
            self.assertIsNone(WORDS_OUT.search(text), name)

    def test_functions_of_at_most_forty_lines(self):
        for node, where in nodes():
            if isinstance(node, ast.FunctionDef):
                self.assertLessEqual(node.end_lineno - node.lineno + 1, 40, where)

    def test_the_top_of_a_file(self):
        for name, text in sources():
            tree = ast.parse(text)
            bound = []
            for node in tree.body:
                self.assertIsInstance(node, (ast.Expr, ast.ImportFrom, ast.FunctionDef, ast.ClassDef, ast.Assign), name)
                self.assertTrue(not isinstance(node, ast.Expr) or is_docstring(node, tree), name)
                if isinstance(node, (ast.FunctionDef, ast.ClassDef)):
                    bound.append(node.name)
                if isinstance(node, ast.Assign):
                    bound.append(node.targets[0].id)
                if isinstance(node, ast.ImportFrom):
                    bound.extend(alias.name for alias in node.names)
            self.assertEqual(len(bound), len(set(bound)), name)

    def test_imports_are_the_packages_own_without_rings(self):
        drawn = {}
        for node, where in nodes():
            if isinstance(node, ast.ImportFrom):
                self.assertEqual(node.level, 0, where)
                self.assertRegex(node.module, r"^digbook\.[a-z_]+$", where)
                self.assertTrue(all(alias.asname is None and alias.name != "*" for alias in node.names), where)
                drawn.setdefault(where.partition(".")[0], set()).add(node.module.partition(".")[2])
        while drawn:
            done = [name for name in drawn if not drawn[name] & set(drawn)]
            self.assertTrue(done, f"files draw from one another: {sorted(drawn)}")
            for name in done:
                del drawn[name]


class Code(unittest.TestCase):
    def test_statements_and_expressions(self):
        for node, where in nodes():
            if isinstance(node, ast.stmt):
                self.assertIsInstance(node, STATEMENTS, where)
            if isinstance(node, ast.expr):
                self.assertIsInstance(node, EXPRESSIONS, where)
            if isinstance(node, (ast.For, ast.While)):
                self.assertEqual(node.orelse, [], where)
            if isinstance(node, ast.Assign):
                self.assertEqual(len(node.targets), 1, where)
            if isinstance(node, ast.Try):
                self.assertEqual(node.finalbody, [], where)
            if isinstance(node, ast.Constant):
                self.assertIsInstance(node.value, (int, str, type(None)), where)
            if isinstance(node, (ast.Div, ast.MatMult)):
                self.fail(f"a division in {where}")

    def test_comprehensions_and_is(self):
        for node, where in nodes():
            if isinstance(node, ast.ListComp):
                self.assertEqual(len(node.generators), 1, where)
                self.assertLessEqual(len(node.generators[0].ifs), 1, where)
            if isinstance(node, ast.Compare):
                for operator, right in zip(node.ops, node.comparators):
                    if isinstance(operator, (ast.Is, ast.IsNot)):
                        self.assertIsInstance(right, ast.Constant, where)
            if isinstance(node, ast.FormattedValue):
                self.assertIsInstance(node.value, ast.Name, where)
                self.assertIsNone(node.format_spec, where)

    def test_functions_and_classes(self):
        for node, where in nodes():
            if isinstance(node, (ast.FunctionDef, ast.ClassDef)):
                self.assertEqual(node.decorator_list, [], where)
            if isinstance(node, ast.arguments):
                self.assertEqual((node.vararg, node.kwarg, node.kwonlyargs, node.posonlyargs), (None, None, [], []))
            if isinstance(node, ast.ClassDef):
                self.assertLessEqual(len(node.bases), 1, where)
                self.assertTrue(all(isinstance(part, (ast.FunctionDef, ast.Pass)) for part in node.body), where)

    def test_names(self):
        for node, where in nodes():
            names = []
            if isinstance(node, ast.arg):
                names.append(node.arg)
            if isinstance(node, ast.Name) and isinstance(node.ctx, ast.Store):
                names.append(node.id)
            if isinstance(node, (ast.FunctionDef, ast.ClassDef)) and node.name not in DUNDERS:
                self.assertRegex(node.name, r"^[A-Za-z][A-Za-z0-9_]*$", where)
            for name in names:
                self.assertRegex(name, r"^[A-Za-z][A-Za-z0-9_]*$", where)
                self.assertNotIn(name, vars(builtins), f"{name} in {where}")
            if isinstance(node, ast.Name) and node.id in vars(builtins):
                self.assertIn(node.id, BUILTINS, where)

    def test_no_local_is_called_like_a_class_or_an_import(self):
        for name, text in sources():
            tree = ast.parse(text)
            taken = {node.name for node in tree.body if isinstance(node, ast.ClassDef)}
            for node in tree.body:
                if isinstance(node, ast.ImportFrom):
                    taken.update(alias.name for alias in node.names)
            for node in ast.walk(tree):
                if isinstance(node, ast.arg):
                    self.assertNotIn(node.arg, taken, name)
                if isinstance(node, ast.Name) and isinstance(node.ctx, ast.Store):
                    self.assertNotIn(node.id, taken, name)

    def test_attributes(self):
        methods, values = own_attributes()
        self.assertEqual(methods & values, set())
        self.assertEqual(values & set(NOT_KEPT), set())
        allowed = set(METHODS) | methods | values
        for node, where in nodes():
            if isinstance(node, ast.Attribute):
                self.assertIn(node.attr, allowed, where)
                self.assertNotIn(node.attr, NAMES_OUT, where)

    def test_walked_at_once(self):
        for node, where in nodes_with_parents():
            if called(node) in ("zip", "enumerate", "reversed", "range", ".items", ".keys", ".values"):
                if isinstance(node.parent, (ast.For, ast.comprehension)):
                    self.assertIs(node.parent.iter, node, where)
                else:
                    self.assertIn(called(node.parent), WALKERS, where)

    def test_sets_are_not_kept(self):
        for node, where in nodes_with_parents():
            if called(node) in ("set", "frozenset") or isinstance(node, ast.Set):
                around = node.parent
                while isinstance(around, ast.BinOp):
                    around = around.parent
                self.assertTrue(isinstance(around, ast.Compare) or called(around) in ("sorted", "len"), where)

    def test_lists_and_dicts_at_the_top_hold_none_and_are_not_changed(self):
        for name, text in sources():
            tree, tops = ast.parse(text), []
            for node in tree.body:
                if isinstance(node, ast.Assign) and isinstance(node.value, (ast.List, ast.Dict)):
                    tops.append(node.targets[0].id)
                    inner = [part for part in ast.walk(node.value) if isinstance(part, (ast.List, ast.Dict))]
                    self.assertEqual(inner, [node.value], name)
            for node in ast.walk(tree):
                if isinstance(node, ast.Subscript) and not isinstance(node.ctx, ast.Load):
                    self.assertNotIn(ast.unparse(node.value), tops, name)
                if isinstance(node, ast.Attribute) and ast.unparse(node.value) in tops:
                    self.assertIn(node.attr, ("get", "items", "keys", "values", "index", "count"), name)

    def test_errors_taken(self):
        for node, where in nodes():
            if isinstance(node, ast.ExceptHandler):
                self.assertIsNotNone(node.type, where)
                self.assertNotIn(ast.unparse(node.type), ("Exception", "TypeError"), where)


if __name__ == "__main__":
    unittest.main()
