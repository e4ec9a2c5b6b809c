"""The form of the package: what of the language's rules a walk over its files can see."""

import ast
import builtins
import os
import re
import unittest

ROOT = os.path.dirname(os.path.dirname(os.path.abspath(__file__)))
PACKAGE = os.path.join(ROOT, "pourhall")

OWN_NAMES = set("""len range enumerate zip min max sum abs sorted reversed int str bool list tuple dict set frozenset
isinstance ord repr any all divmod Exception ValueError TypeError KeyError IndexError LookupError ZeroDivisionError
ArithmeticError OverflowError RuntimeError NotImplementedError AttributeError StopIteration""".split())
METHODS = set("""append clear copy count endswith extend find get index insert isalnum isalpha isdigit islower isspace
isupper items join keys ljust lower lstrip partition pop remove replace reverse rfind rjust rpartition rsplit rstrip
setdefault split splitlines startswith strip update upper values zfill bit_length""".split())
DUNDERS = {"__init__", "__eq__", "__repr__", "__str__", "__len__"}
UNUSED = set("""register mro elements open input version_info with_traceback add_note format format_map attrgetter
breakpoint builtins compile copyright credits delattr dir eval exec exit gc getattr globals hasattr help id importlib
license locals methodcaller os quit setattr super vars sys print chr""".split())
WORDS = re.compile(r"\b(type|typing|typing_extensions|enum|Enum|IntEnum|StrEnum|Flag|IntFlag|Generic|Protocol|ABC"
                   r"|ABCMeta|namedtuple|NamedTuple|TypedDict|TYPE_CHECKING|abstractmethod)\b"
                   r"|dataclass|overload|contextmanager")
KEYWORDS = {"sorted": {"key", "reverse"}, "min": {"key", "default"}, "max": {"key", "default"}, "sum": {"start"},
            "enumerate": {"start"}, "zip": {"strict"}}
NODES = tuple(getattr(ast, name) for name in """Module Expr ImportFrom alias FunctionDef arguments arg Lambda ClassDef
Assign AugAssign If While For Return Break Continue Pass Raise Try ExceptHandler Constant List Tuple Dict Set Name Load
Store BinOp UnaryOp BoolOp Compare IfExp Call keyword Attribute Subscript Slice ListComp comprehension JoinedStr
FormattedValue Add Sub Mult FloorDiv Mod Pow BitAnd BitOr BitXor LShift RShift Invert Not USub UAdd And Or Eq NotEq Lt
LtE Gt GtE Is IsNot In NotIn""".split())
WALKED = {"zip", "enumerate", "reversed", "range"}
WALKERS = {"list", "tuple", "dict", "sorted", "sum", "any", "all", "enumerate", "zip", "min", "max"}


def package_files():
    return sorted(name for name in os.listdir(PACKAGE) if name != "__pycache__")


def source_of(name):
    with open(os.path.join(PACKAGE, name), "rb") as file:
        return file.read().decode("ascii")


def trees():
    return [(name, ast.parse(source_of(name))) for name in package_files()]


def parents_of(tree):
    return {child: node for node in ast.walk(tree) for child in ast.iter_child_nodes(node)}


def called(node, names):
    return isinstance(node, ast.Call) and isinstance(node.func, ast.Name) and node.func.id in names


def plain_value(node, names):
    if isinstance(node, ast.UnaryOp):
        return isinstance(node.op, ast.USub) and plain_value(node.operand, names)
    if isinstance(node, (ast.List, ast.Tuple)):
        return all(plain_value(item, names) for item in node.elts)
    if isinstance(node, ast.Dict):
        return all(plain_value(item, names) for item in node.keys + node.values)
    if isinstance(node, ast.Name):
        return node.id in names
    return isinstance(node, ast.Constant) and (node.value is None or isinstance(node.value, (int, str)))


def bound_names(tree):
    """Every name that a file binds: by def, class, import, parameter, assignment or loop."""
    names = []
    for node in ast.walk(tree):
        if isinstance(node, (ast.FunctionDef, ast.ClassDef)):
            names.append(node.name)
        elif isinstance(node, ast.arg):
            names.append(node.arg)
        elif isinstance(node, ast.alias):
            names.append(node.asname or node.name)
        elif isinstance(node, ast.ExceptHandler) and node.name:
            names.append(node.name)
        elif isinstance(node, ast.Name) and isinstance(node.ctx, ast.Store):
            names.append(node.id)
    return names


def top_names(tree):
    names = []
    for node in tree.body:
        if isinstance(node, (ast.FunctionDef, ast.ClassDef)):
            names.append(node.name)
        elif isinstance(node, ast.ImportFrom):
            names += [alias.asname or alias.name for alias in node.names]
        elif isinstance(node, ast.Assign):
            names += [target.id for target in node.targets]
    return names


class TestFiles(unittest.TestCase):
    def test_names(self):
        self.assertIn("__init__.py", package_files())
        for name in package_files():
            self.assertRegex(name, r"^(__init__|[a-z][a-z0-9_]*)\.py$")
            stem = name[:-3]
            self.assertFalse(stem.startswith("test") or stem in ("site", "conftest", "sitecustomize", "usercustomize"))
            self.assertFalse(stem in vars(builtins))
            self.assertIsNone(WORDS.search(stem))

    def test_signs_sizes_and_words(self):
        for name in package_files():
            source = source_of(name)
            self.assertTrue(all(sign == "\n" or " " <= sign <= "~" for sign in source), name)
            self.assertIsNone(WORDS.search(source), name)
            rows = source.split("\n")
            self.assertLessEqual(len(rows), 401, name)
            self.assertLessEqual(max(len(row) for row in rows), 120, name)

    def test_imports(self):
        drawn = {}
        for name, tree in trees():
            drawn[name[:-3]] = []
            for node in ast.walk(tree):
                if isinstance(node, ast.ImportFrom):
                    self.assertIn(node, tree.body, name)
                    self.assertEqual(node.level, 0, name)
                    self.assertRegex(node.module, r"^pourhall\.[a-z0-9_]+$")
                    other = node.module.split(".")[1]
                    own = [top for top in ast.parse(source_of(other + ".py")).body
                           if not isinstance(top, ast.ImportFrom)]
                    for alias in node.names:
                        self.assertIn(alias.name, top_names(ast.Module(own, [])), name)
                    drawn[name[:-3]].append(other)
        while drawn:
            free = [name for name in drawn if not any(other in drawn for other in drawn[name])]
            self.assertTrue(free, "files draw from one another")
            for name in free:
                del drawn[name]


class TestForm(unittest.TestCase):
    def each(self, *kinds):
        for name, tree in trees():
            for node in ast.walk(tree):
                if isinstance(node, kinds):
                    yield f"{name}:{getattr(node, 'lineno', 0)}", node

    def test_only_listed_forms(self):
        for place, node in self.each(ast.AST):
            self.assertIsInstance(node, NODES, place)

    def test_tops(self):
        for name, tree in trees():
            self.assertTrue(ast.get_docstring(tree), name)
            names = top_names(tree)
            self.assertEqual(len(names), len(set(names)), name)
            defs = []
            for node in tree.body[1:]:
                self.assertIsInstance(node, (ast.ImportFrom, ast.FunctionDef, ast.ClassDef, ast.Assign), name)
                if isinstance(node, ast.FunctionDef):
                    defs.append(node.name)
                if isinstance(node, ast.Assign):
                    self.assertTrue(plain_value(node.value, defs), f"{name}:{node.lineno}")

    def test_functions(self):
        for place, node in self.each(ast.FunctionDef):
            given = node.args
            self.assertFalse(given.vararg or given.kwarg or given.kwonlyargs or given.posonlyargs, place)
            self.assertFalse(node.decorator_list or node.returns, place)
            self.assertLessEqual(node.end_lineno - node.lineno + 1, 40, place)

    def test_classes(self):
        for place, node in self.each(ast.ClassDef):
            self.assertLessEqual(len(node.bases), 1, place)
            self.assertFalse(node.keywords or node.decorator_list, place)
            for inner in node.body:
                if not isinstance(inner, ast.FunctionDef):
                    self.assertIsInstance(inner, (ast.Expr, ast.Pass), place)

    def test_statements(self):
        for place, node in self.each(ast.For, ast.While):
            self.assertFalse(node.orelse, place)
        for place, node in self.each(ast.Assign):
            self.assertEqual(len(node.targets), 1, place)
            self.assertNotIsInstance(node.targets[0], (ast.Tuple, ast.List), place)
        for place, node in self.each(ast.Try):
            self.assertFalse(node.finalbody, place)
        for place, node in self.each(ast.Expr):
            self.assertIsInstance(node.value, (ast.Call, ast.Constant), place)
        for place, node in self.each(ast.ExceptHandler):
            self.assertIsNotNone(node.type, place)

    def test_values(self):
        for place, node in self.each(ast.Constant):
            self.assertIsInstance(node.value, (int, str, bool, type(None)), place)
            if isinstance(node.value, str):
                self.assertNotIn("%", node.value, place)
        for place, node in self.each(ast.ListComp):
            self.assertEqual(len(node.generators), 1, place)
            self.assertLessEqual(len(node.generators[0].ifs), 1, place)
        for place, node in self.each(ast.FormattedValue):
            self.assertIsInstance(node.value, ast.Name, place)
            self.assertIsNone(node.format_spec, place)
        for place, node in self.each(ast.Compare):
            for op, other in zip(node.ops, node.comparators):
                if isinstance(op, (ast.Is, ast.IsNot)):
                    self.assertIsInstance(other, ast.Constant, place)
        for name in package_files():
            self.assertIsNone(re.search(r"\\[^nt\\\"']", source_of(name)), name)

    def test_names(self):
        for name, tree in trees():
            bound = bound_names(tree)
            for word in bound:
                self.assertFalse(word in vars(builtins) or word in UNUSED, f"{name}: {word}")
                self.assertTrue(word in DUNDERS or re.match(r"^[A-Za-z][A-Za-z0-9_]*$", word), f"{name}: {word}")
            for node in ast.walk(tree):
                if isinstance(node, ast.Name):
                    self.assertIn(node.id, OWN_NAMES | set(bound), name)
            kept = [alias.name for node in tree.body if isinstance(node, ast.ImportFrom) for alias in node.names]
            kept += [node.name for node in tree.body if isinstance(node, ast.ClassDef)]
            for node in ast.walk(tree):
                if isinstance(node, ast.arg):
                    self.assertNotIn(node.arg, kept, name)
                if isinstance(node, ast.Name) and isinstance(node.ctx, ast.Store):
                    self.assertNotIn(node.id, kept, name)

    def test_methods_and_values_of_objects(self):
        fields = set()
        methods = set()
        for place, node in self.each(ast.Attribute):
            if isinstance(node.ctx, ast.Store):
                fields.add(node.attr)
        for place, node in self.each(ast.ClassDef):
            methods |= {inner.name for inner in node.body if isinstance(inner, ast.FunctionDef)}
        self.assertFalse(fields & methods)
        for place, node in self.each(ast.Attribute):
            self.assertIn(node.attr, METHODS | fields | methods, place)
            self.assertNotIn(node.attr, UNUSED, place)

    def test_keywords(self):
        for place, node in self.each(ast.Call):
            if node.keywords and isinstance(node.func, ast.Name) and node.func.id in OWN_NAMES:
                for keyword in node.keywords:
                    self.assertIn(keyword.arg, KEYWORDS.get(node.func.id, set()), place)

    def test_walked_at_once(self):
        for name, tree in trees():
            parents = parents_of(tree)
            for node in ast.walk(tree):
                if called(node, WALKED):
                    above = parents[node]
                    walked = isinstance(above, (ast.For, ast.comprehension)) and above.iter is node
                    self.assertTrue(walked or called(above, WALKERS), f"{name}:{node.lineno}")

    def test_items_keys_and_values_are_walked_at_once(self):
        for name, tree in trees():
            parents = parents_of(tree)
            for node in ast.walk(tree):
                if isinstance(node, ast.Attribute) and node.attr in ("items", "keys", "values"):
                    above = parents[parents[node]]
                    walked = isinstance(above, (ast.For, ast.comprehension)) and above.iter is parents[node]
                    self.assertTrue(walked or called(above, WALKERS), f"{name}:{node.lineno}")

    def test_lists_and_dicts_of_a_top_are_only_read(self):
        kept = {node.targets[0].id for name, tree in trees() for node in tree.body
                if isinstance(node, ast.Assign) and isinstance(node.value, (ast.List, ast.Dict))}
        for name, tree in trees():
            parents = parents_of(tree)
            for node in ast.walk(tree):
                if isinstance(node, ast.Assign) and isinstance(node.value, (ast.List, ast.Dict)) and node in tree.body:
                    inner = [other for other in ast.walk(node.value) if isinstance(other, (ast.List, ast.Dict))]
                    self.assertEqual(inner, [node.value], f"{name}:{node.lineno}")
                if isinstance(node, ast.Name) and node.id in kept and isinstance(node.ctx, ast.Load):
                    above = parents[node]
                    indexed = isinstance(above, ast.Subscript) and isinstance(above.ctx, ast.Load)
                    asked = isinstance(above, ast.Compare) and node in above.comparators
                    walked = isinstance(above, (ast.For, ast.comprehension)) and above.iter is node
                    copied = called(above, {"len", "list", "dict", "sorted"})
                    self.assertTrue(indexed or asked or walked or copied, f"{name}:{node.lineno}")

    def test_classes_are_called_taken_or_made_of(self):
        for name, tree in trees():
            parents = parents_of(tree)
            for node in ast.walk(tree):
                if isinstance(node, ast.Name) and re.match("[A-Z][a-z]", node.id):
                    above = parents[node]
                    if isinstance(above, ast.Tuple):
                        above = parents[above]
                    self.assertTrue(isinstance(above, (ast.Call, ast.ClassDef, ast.ExceptHandler, ast.Raise))
                                    or (isinstance(above, ast.Attribute) and above.attr == "__init__"),
                                    f"{name}:{node.lineno}")

    def test_sets(self):
        for name, tree in trees():
            parents = parents_of(tree)
            for node in ast.walk(tree):
                if called(node, {"set", "frozenset"}):
                    above = parents[node]
                    while isinstance(above, ast.BinOp):
                        above = parents[above]
                    self.assertTrue(isinstance(above, ast.Compare) or called(above, {"sorted", "len"}),
                                    f"{name}:{node.lineno}")


if __name__ == "__main__":
    unittest.main()
