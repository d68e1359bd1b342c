"""The package's own files keep to the small part of Python that the program is written in.

Checked is what can be seen in the files: names, signs, sizes, imports, statements, expressions, methods, classes, what
stands at a file's top, handlers of errors, keywords, and what is walked at once.
"""

import ast
import builtins
import pathlib
import re
import unittest

PACKAGE = pathlib.Path(__file__).resolve().parent.parent / "turnroots"
FILES = sorted(PACKAGE.rglob("*.py"))
OWN_NAMES = set(
    "len range enumerate zip min max sum abs sorted reversed int str bool list tuple dict set frozenset isinstance "
    "ord repr any all divmod Exception ValueError TypeError KeyError IndexError LookupError ZeroDivisionError "
    "ArithmeticError OverflowError RuntimeError NotImplementedError AttributeError StopIteration".split()
)
METHODS = set(
    "append clear copy count endswith extend find get index insert isalnum isalpha isdigit islower isspace isupper "
    "items join keys ljust lower lstrip partition pop remove replace reverse rfind rjust rpartition rsplit rstrip "
    "setdefault split splitlines startswith strip update upper values zfill bit_length".split()
)
NO_WORDS = set(
    "type typing typing_extensions enum Enum IntEnum StrEnum Flag IntFlag Generic Protocol ABC ABCMeta namedtuple "
    "NamedTuple TypedDict TYPE_CHECKING abstractmethod".split()
)
NO_NAMES = set(
    "register mro elements open input version_info with_traceback add_note attrgetter breakpoint builtins compile "
    "copyright credits delattr dir eval exec exit gc getattr globals hasattr help id importlib license locals "
    "methodcaller os quit setattr super vars sys chr print format format_map".split()
)
NODES = tuple(
    getattr(ast, name) for name in (
        "Module ImportFrom alias FunctionDef arguments arg ClassDef Assign AugAssign If While For Return Break Continue "
        "Pass Raise Try ExceptHandler Expr Constant List Tuple Dict Set BinOp UnaryOp BoolOp Compare IfExp Call "
        "keyword Attribute Subscript Slice ListComp comprehension JoinedStr FormattedValue Name Lambda "
        "Add Sub Mult FloorDiv Mod Pow BitAnd BitOr BitXor LShift RShift Invert USub UAdd Not And Or "
        "Eq NotEq Lt LtE Gt GtE In NotIn Is IsNot Load Store"
    ).split()
)


PYTHON_VALUES = (str, int, list, dict, set, bytes)
# Free for methods beside METHODS, and for values, though Python's own values have such methods, too.
FREE_METHODS = METHODS | {"add", "discard"}
FREE_VALUES = set("count index title find get join lower upper split strip copy add".split())
HANDLED = set("KeyError ZeroDivisionError StopIteration".split())
KEYWORDS = {
    "sorted": {"key", "reverse"}, "min": {"key", "default"}, "max": {"key", "default"}, "sum": {"start"},
    "enumerate": {"start"}, "zip": {"strict"},
}
WALKED = set("zip enumerate reversed range".split())
WALKED_METHODS = set("items keys values".split())
WALKING = set("list tuple dict sorted sum any all enumerate zip min max join".split())


def tree_of(path):
    return ast.parse(path.read_text(encoding="utf-8"))


def bound_names(tree):
    for node in ast.walk(tree):
        if isinstance(node, (ast.FunctionDef, ast.ClassDef)):
            yield node.name
        if isinstance(node, ast.arg):
            yield node.arg
        if isinstance(node, ast.Name) and isinstance(node.ctx, ast.Store):
            yield node.id


def names_at_top(path):
    told = set()
    for node in tree_of(path).body:
        if isinstance(node, (ast.FunctionDef, ast.ClassDef)):
            told.add(node.name)
        if isinstance(node, ast.Assign):
            told.add(node.targets[0].id)
    return told


def drawn_from(path):
    return {node.module for node in tree_of(path).body if isinstance(node, ast.ImportFrom)}


def classes_of(path):
    return [node for node in tree_of(path).body if isinstance(node, ast.ClassDef)]


def values_of(node):
    """The names of the values that are given to an object."""
    return {
        part.attr for part in ast.walk(node) if isinstance(part, ast.Attribute) and isinstance(part.ctx, ast.Store)
    }


def parents_in(tree):
    return {part: node for node in ast.walk(tree) for part in ast.iter_child_nodes(node)}


def called(node):
    """The name that a call calls, of a method too."""
    if not isinstance(node, ast.Call):
        return None
    return node.func.id if isinstance(node.func, ast.Name) else getattr(node.func, "attr", None)


def is_plain(node, functions):
    if isinstance(node, (ast.List, ast.Tuple)):
        return all(is_plain(part, functions) for part in node.elts)
    if isinstance(node, ast.Dict):
        return all(is_plain(part, functions) for part in node.keys + node.values)
    if isinstance(node, ast.UnaryOp):
        return isinstance(node.op, ast.USub) and is_plain(node.operand, functions)
    return isinstance(node, ast.Constant) or isinstance(node, ast.Name) and node.id in functions


class TestLanguage(unittest.TestCase):
    def test_files(self):
        for path in PACKAGE.rglob("*"):
            if "__pycache__" not in path.parts:
                self.assertRegex(path.name, r"\A(__init__|[a-z][a-z0-9_]*)\.py\Z")
                self.assertNotIn(path.stem, dir(builtins))
        self.assertIn(PACKAGE / "__init__.py", FILES)

    def test_signs_and_sizes(self):
        for path in FILES:
            text = path.read_text(encoding="utf-8")
            rows = text.split("\n")
            self.assertRegex(text, r"\A[ -~\n]*\Z", path.name)
            self.assertLessEqual(len(rows), 400, path.name)
            self.assertLessEqual(max(len(row) for row in rows), 120, path.name)
            self.assertEqual(NO_WORDS & set(re.findall(r"\w+", text)), set(), path.name)
            self.assertNotRegex(text, "dataclass|overload|contextmanager")
            for node in ast.walk(tree_of(path)):
                if isinstance(node, ast.FunctionDef):
                    self.assertLessEqual(node.end_lineno - node.lineno + 1, 40, node.name)

    def test_statements_and_expressions(self):
        for path in FILES:
            for node in ast.walk(tree_of(path)):
                place = (path.name, getattr(node, "lineno", 0), type(node).__name__)
                self.assertIsInstance(node, NODES, place)
                if isinstance(node, (ast.For, ast.While)):
                    self.assertEqual(node.orelse, [], place)
                if isinstance(node, ast.Try):
                    self.assertEqual(node.finalbody, [], place)
                if isinstance(node, ast.Assign):
                    self.assertEqual(len(node.targets), 1, place)
                if isinstance(node, ast.Constant):
                    self.assertIn(type(node.value), (int, str, bool, type(None)), place)
                if isinstance(node, (ast.FunctionDef, ast.ClassDef)):
                    self.assertEqual(node.decorator_list, [], place)
                if isinstance(node, ast.arguments):
                    self.assertEqual((node.vararg, node.kwarg, node.kwonlyargs, node.posonlyargs), (None, None, [], []))
                if isinstance(node, ast.Attribute):
                    self.assertNotIn(node.attr, NO_NAMES, place)
                if isinstance(node, ast.Name):
                    self.assertNotIn(node.id, NO_NAMES, place)

    def test_narrower_forms(self):
        for path in FILES:
            for node in ast.walk(tree_of(path)):
                place = (path.name, getattr(node, "lineno", 0), type(node).__name__)
                if isinstance(node, ast.BinOp) and isinstance(node.op, ast.Pow):
                    self.assertIsInstance(node.right, ast.Constant, place)
                if isinstance(node, ast.Constant) and isinstance(node.value, str):
                    self.assertNotIn("%", node.value, place)
                if isinstance(node, ast.ListComp):
                    self.assertEqual(len(node.generators), 1, place)
                    self.assertLessEqual(len(node.generators[0].ifs), 1, place)
                if isinstance(node, ast.Compare) and any(isinstance(op, (ast.Is, ast.IsNot)) for op in node.ops):
                    sides = [side for side in [node.left] + node.comparators if isinstance(side, ast.Constant)]
                    self.assertTrue(any(side.value in (None, True, False) for side in sides), place)
                if isinstance(node, (ast.FunctionDef, ast.ClassDef)):
                    inner = [part for part in ast.walk(node) if isinstance(part, (ast.ImportFrom, ast.ClassDef))]
                    self.assertEqual([part for part in inner if part is not node], [], place)

    def test_names(self):
        for path in FILES:
            tree = tree_of(path)
            for name in bound_names(tree):
                self.assertRegex(name, r"\A([A-Za-z]\w*|__(init|eq|repr|str|len)__)\Z", path.name)
                self.assertNotIn(name, dir(builtins), path.name)
            for node in ast.walk(tree):
                if isinstance(node, ast.Name) and node.id in dir(builtins):
                    self.assertIn(node.id, OWN_NAMES, path.name)

    def test_methods(self):
        own = {name for path in FILES for name in bound_names(tree_of(path))}
        for path in FILES:
            for node in ast.walk(tree_of(path)):
                if isinstance(node, ast.Call) and isinstance(node.func, ast.Attribute):
                    self.assertIn(node.func.attr, METHODS | own | {"__init__"}, (path.name, node.lineno))

    def test_imports(self):
        modules = {"turnroots." + path.stem: path for path in FILES if path.name != "__init__.py"}
        for path in FILES:
            for node in ast.walk(tree_of(path)):
                if isinstance(node, ast.ImportFrom):
                    self.assertEqual(node.level, 0, path.name)
                    self.assertIn(node.module, modules, path.name)
                    defined = names_at_top(modules[node.module])
                    for drawn in node.names:
                        self.assertIn(drawn.name, defined, path.name)
                        self.assertIsNone(drawn.asname, path.name)

    def test_no_two_draw_from_one_another(self):
        left = {"turnroots." + path.stem: drawn_from(path) for path in FILES}
        while left:
            free = [name for name, drawn in left.items() if not drawn & set(left)]
            self.assertNotEqual(free, [], sorted(left))
            for name in free:
                del left[name]

    def test_the_top_of_a_file(self):
        for path in FILES:
            body = tree_of(path).body
            self.assertIsNotNone(ast.get_docstring(tree_of(path)), path.name)
            functions = set()
            bound = []
            for node in body[1:]:
                place = (path.name, node.lineno)
                self.assertIsInstance(node, (ast.ImportFrom, ast.FunctionDef, ast.ClassDef, ast.Assign), place)
                if isinstance(node, ast.ImportFrom):
                    bound.extend(drawn.name for drawn in node.names)
                elif isinstance(node, ast.Assign):
                    self.assertIsInstance(node.targets[0], ast.Name, place)
                    self.assertTrue(is_plain(node.value, functions), place)
                    kept = [part for part in ast.walk(node.value) if isinstance(part, (ast.List, ast.Dict))]
                    self.assertEqual([part for part in kept if part is not node.value], [], place)
                    bound.append(node.targets[0].id)
                else:
                    bound.append(node.name)
                    functions.add(node.name)
            self.assertEqual(len(bound), len(set(bound)), path.name)

    def test_locals_and_parameters(self):
        for path in FILES:
            tree = tree_of(path)
            taken = {drawn.name for node in tree.body if isinstance(node, ast.ImportFrom) for drawn in node.names}
            taken.update(node.name for node in classes_of(path))
            for node in ast.walk(tree):
                if isinstance(node, ast.FunctionDef):
                    self.assertEqual(taken & set(bound_names(node)), set(), (path.name, node.name))

    def test_classes(self):
        methods = set()
        values = set()
        for path in FILES:
            for node in classes_of(path):
                self.assertLessEqual(len(node.bases), 1, node.name)
                self.assertEqual(node.keywords, [], node.name)
                defined = [part.name for part in node.body if isinstance(part, ast.FunctionDef)]
                self.assertEqual(len(defined), len(set(defined)), node.name)
                for part in node.body:
                    self.assertIsInstance(part, (ast.FunctionDef, ast.Pass, ast.Expr), (path.name, part.lineno))
                methods.update(defined)
                values.update(values_of(node))
        self.assertEqual(methods & values, set())
        for name in methods - FREE_METHODS - {"__init__"}:
            self.assertFalse(any(hasattr(kind, name) for kind in PYTHON_VALUES), name)
        for name in values - FREE_VALUES:
            self.assertFalse(any(hasattr(kind, name) for kind in PYTHON_VALUES), name)

    def test_classes_are_called_or_named_alone(self):
        own = {node.name for path in FILES for node in classes_of(path)}
        for path in FILES:
            tree = tree_of(path)
            parents = parents_in(tree)
            for node in ast.walk(tree):
                if isinstance(node, ast.Name) and node.id in own:
                    above = parents[node]
                    fits = isinstance(above, (ast.ClassDef, ast.ExceptHandler, ast.Raise))
                    fits = fits or isinstance(above, ast.Call) and (above.func is node or called(above) == "isinstance")
                    self.assertTrue(fits, (path.name, node.lineno))

    def test_errors_that_are_taken(self):
        own = {node.name for path in FILES for node in classes_of(path)}
        for path in FILES:
            for node in ast.walk(tree_of(path)):
                if isinstance(node, ast.ExceptHandler):
                    self.assertIsInstance(node.type, ast.Name, (path.name, node.lineno))
                    self.assertIn(node.type.id, own | HANDLED, (path.name, node.lineno))
                if isinstance(node, ast.Raise):
                    self.assertIsInstance(node.exc, ast.Call, (path.name, node.lineno))
                    self.assertIn(called(node.exc), own, (path.name, node.lineno))

    def test_keywords(self):
        for path in FILES:
            for node in ast.walk(tree_of(path)):
                if isinstance(node, ast.Call):
                    given = {keyword.arg for keyword in node.keywords}
                    self.assertLessEqual(given, KEYWORDS.get(called(node), set()), (path.name, node.lineno))

    def test_walked_at_once(self):
        for path in FILES:
            tree = tree_of(path)
            parents = parents_in(tree)
            for node in ast.walk(tree):
                method = isinstance(node, ast.Call) and isinstance(node.func, ast.Attribute)
                if called(node) in (WALKED_METHODS if method else WALKED):
                    above = parents[node]
                    fits = isinstance(above, (ast.For, ast.comprehension)) and above.iter is node
                    self.assertTrue(fits or called(above) in WALKING, (path.name, node.lineno))

    def test_no_set_is_kept(self):
        for path in FILES:
            for node in ast.walk(tree_of(path)):
                self.assertNotIsInstance(node, ast.Set, path.name)
                self.assertNotIn(called(node), ("set", "frozenset"), path.name)


if __name__ == "__main__":
    unittest.main()
