"""The form of the package's files: many rules of LANGUAGE.md, though not L9 and L11, and of others only a part."""

import ast
import builtins
import pathlib
import re
import unittest

PACKAGE = pathlib.Path(__file__).resolve().parent.parent / "forsworn"
FILES = sorted(path for path in PACKAGE.rglob("*.py"))

OWN_NAMES = set(
    "len range enumerate zip min max sum abs sorted reversed int str bool list tuple dict set frozenset isinstance "
    "ord repr any all divmod Exception ValueError TypeError KeyError IndexError LookupError ZeroDivisionError "
    "ArithmeticError OverflowError RuntimeError NotImplementedError AttributeError StopIteration".split()
)
METHODS = set(
    "append clear copy count endswith extend find get index insert isalnum isalpha isdigit islower isspace isupper "
    "items join keys ljust lower lstrip partition pop remove replace reverse rfind rjust rpartition rsplit rstrip "
    "setdefault split splitlines startswith strip update upper values zfill bit_length".split()
)
DUNDER_METHODS = {"__init__", "__eq__", "__repr__", "__str__", "__len__"}
UNUSED = set(
    "register mro elements open input version_info with_traceback add_note format format_map attrgetter breakpoint "
    "builtins compile copyright credits delattr dir eval exec exit gc getattr globals hasattr help id importlib "
    "license locals methodcaller os quit setattr super type vars sys chr sort".split()
)
WORDS = re.compile(
    r"\b(type|typing|typing_extensions|enum|Enum|IntEnum|StrEnum|Flag|IntFlag|Generic|Protocol|ABC|ABCMeta|namedtuple"
    r"|NamedTuple|TypedDict|TYPE_CHECKING|abstractmethod)\b|dataclass|overload|contextmanager"
)
FILE_NAMES = {"test", "tests", "testing", "site", "conftest", "sitecustomize", "usercustomize"}
# L25's methods that a value of an object may be called, too.
VALUES = set("count index title find get join lower upper split strip copy add".split())
PYTHONS_OWN = {
    name for kind in (str, int, list, tuple, dict, set, frozenset, bytes, bytearray, float, BaseException)
    for name in vars(kind) if not name.startswith("__")
}
CHANGES = set("append clear extend insert pop remove reverse setdefault update".split())
WALKED = {"zip", "enumerate", "reversed", "range"}
WALKERS = {"list", "tuple", "dict", "sorted", "sum", "any", "all", "enumerate", "zip", "min", "max"}
NODES = (
    ast.Module, ast.FunctionDef, ast.ClassDef, ast.ImportFrom, ast.alias, ast.arguments, ast.arg, ast.Assign,
    ast.AugAssign, ast.If, ast.While, ast.For, ast.Return, ast.Break, ast.Continue, ast.Pass, ast.Raise, ast.Try,
    ast.ExceptHandler, ast.Expr, ast.Constant, ast.List, ast.Tuple, ast.Dict, ast.Set, ast.BinOp, ast.UnaryOp,
    ast.BoolOp, ast.Compare, ast.IfExp, ast.Call, ast.keyword, ast.Attribute, ast.Subscript, ast.Slice, ast.ListComp,
    ast.comprehension, ast.JoinedStr, ast.FormattedValue, ast.Lambda, ast.Name, ast.expr_context, ast.operator,
    ast.unaryop, ast.boolop, ast.cmpop,
)


def where(path, node):
    return f"{path.name}:{getattr(node, 'lineno', 0)}"


def called(node):
    return node.func.id if isinstance(node, ast.Call) and isinstance(node.func, ast.Name) else None


def bound_names(tree):
    for node in ast.walk(tree):
        if isinstance(node, ast.arg):
            yield node.arg
        elif isinstance(node, ast.Name) and isinstance(node.ctx, ast.Store):
            yield node.id
        elif isinstance(node, (ast.FunctionDef, ast.ClassDef)):
            yield node.name
        elif isinstance(node, ast.ExceptHandler) and node.name:
            yield node.name


def top_names(tree):
    names = []
    for node in tree.body:
        if isinstance(node, (ast.FunctionDef, ast.ClassDef)):
            names.append(node.name)
        elif isinstance(node, ast.Assign):
            names += [target.id for target in node.targets]
        elif isinstance(node, ast.ImportFrom):
            names += [alias.asname or alias.name for alias in node.names]
    return names


def walked_in(node):
    """What a loop over this walks: the thing itself, or what lies in enumerate, zip, reversed or items."""
    if called(node) in ("enumerate", "zip", "reversed"):
        return [part for inner in node.args for part in walked_in(inner)]
    if isinstance(node, ast.Call) and getattr(node.func, "attr", "") in ("items", "keys", "values"):
        return walked_in(node.func.value)
    return [node]


def parents(tree):
    told = {}
    for node in ast.walk(tree):
        for child in ast.iter_child_nodes(node):
            told[child] = node
    return told


class Form(unittest.TestCase):
    def each(self):
        self.assertTrue(FILES)
        for path in FILES:
            text = path.read_text(encoding="utf-8")
            yield path, text, ast.parse(text)

    def own_methods(self):
        trees = [ast.parse(path.read_text(encoding="utf-8")) for path in FILES]
        classes = [node for tree in trees for node in ast.walk(tree) if isinstance(node, ast.ClassDef)]
        return {node.name for one in classes for node in one.body if isinstance(node, ast.FunctionDef)}

    def test_files(self):
        for path in PACKAGE.rglob("*"):
            if path.name != "__pycache__" and path.parent.name != "__pycache__":
                self.assertEqual(path.suffix, ".py", path)
                if path.stem not in ("__init__", "__main__"):
                    self.assertRegex(path.stem, r"\A[a-z][a-z0-9_]*\Z")
                    self.assertNotIn(path.stem, FILE_NAMES)
                    self.assertFalse(path.stem.startswith("test_") or hasattr(builtins, path.stem))
        self.assertTrue((PACKAGE / "__init__.py").exists())

    def test_signs_words_and_size(self):
        for path, text, tree in self.each():
            self.assertTrue(all(sign == "\n" or " " <= sign <= "~" for sign in text), path.name)
            self.assertIsNone(WORDS.search(text), path.name)
            self.assertLessEqual(len(text.splitlines()), 400, path.name)
            self.assertLessEqual(max([len(row) for row in text.splitlines()], default=0), 120, path.name)
            for node in ast.walk(tree):
                if isinstance(node, ast.FunctionDef):
                    self.assertLessEqual(node.end_lineno - node.lineno + 1, 40, where(path, node))

    def test_top(self):
        kinds = (ast.ImportFrom, ast.FunctionDef, ast.ClassDef, ast.Assign)
        for path, text, tree in self.each():
            body = tree.body[1:] if ast.get_docstring(tree) is not None else tree.body
            self.assertTrue(all(isinstance(node, kinds) for node in body), path.name)
            names = top_names(tree)
            self.assertEqual(len(set(names)), len(names))
            inner = [node for top in tree.body for node in ast.walk(top) if node != top]
            self.assertFalse([node for node in inner if isinstance(node, (ast.ClassDef, ast.ImportFrom))])

    def test_top_values(self):
        for path, text, tree in self.each():
            above = parents(tree)
            kept = {node.targets[0].id: node.value for node in tree.body if isinstance(node, ast.Assign)}
            for value in kept.values():
                self.assertNotIsInstance(value, (ast.ListComp, ast.Call, ast.Name, ast.Set), where(path, value))
                for node in [node for node in ast.walk(value) if node != value]:
                    self.assertIsInstance(node, (ast.Constant, ast.Tuple, ast.expr_context), where(path, value))
            held = [name for name in kept if isinstance(kept[name], (ast.List, ast.Dict))]
            for node in ast.walk(tree):
                if isinstance(node, ast.Name) and node.id in held and isinstance(node.ctx, ast.Load):
                    over = above[node]
                    is_read = isinstance(over, ast.Subscript) and isinstance(over.ctx, ast.Load) and over.value == node
                    is_asked = isinstance(over, ast.Compare) and node in over.comparators
                    self.assertTrue(is_read or is_asked, where(path, node))

    def test_imports(self):
        drawn = {}
        for path, text, tree in self.each():
            rows = [node for node in tree.body if isinstance(node, ast.ImportFrom)]
            for row in rows:
                self.assertEqual(row.level, 0)
                self.assertRegex(row.module, r"\Aforsworn\.[a-z]")
                source = PACKAGE / (row.module.split(".", 1)[1].replace(".", "/") + ".py")
                defined = ast.parse(source.read_text(encoding="utf-8"))
                defined.body = [node for node in defined.body if not isinstance(node, ast.ImportFrom)]
                for alias in row.names:
                    self.assertIn(alias.name, top_names(defined))
            drawn[path.stem] = [row.module.rsplit(".", 1)[1] for row in rows]
        while drawn:
            free = [stem for stem in drawn if not [source for source in drawn[stem] if source in drawn]]
            self.assertTrue(free, drawn)
            for stem in free:
                drawn.pop(stem)

    def test_nodes(self):
        for path, text, tree in self.each():
            above = parents(tree)
            for node in ast.walk(tree):
                self.assertIsInstance(node, NODES, where(path, node))
                self.assertNotIsInstance(node, (ast.Div, ast.MatMult, ast.Starred))
                if isinstance(node, ast.Expr):
                    self.assertTrue(isinstance(node.value, ast.Call) or above[node] == tree, where(path, node))
                if isinstance(node, (ast.For, ast.While)):
                    self.assertFalse(node.orelse, where(path, node))
                if isinstance(node, ast.Try):
                    self.assertFalse(node.finalbody, where(path, node))
                if isinstance(node, ast.Assign):
                    self.assertEqual(len(node.targets), 1, where(path, node))
                if isinstance(node, ast.ListComp):
                    self.assertEqual(len(node.generators), 1, where(path, node))
                    self.assertLessEqual(len(node.generators[0].ifs), 1, where(path, node))

    def test_functions_and_classes(self):
        for path, text, tree in self.each():
            for node in ast.walk(tree):
                if isinstance(node, (ast.FunctionDef, ast.ClassDef)):
                    self.assertFalse(node.decorator_list, where(path, node))
                if isinstance(node, ast.FunctionDef):
                    held = node.args
                    unplain = held.vararg or held.kwarg or held.kwonlyargs or held.posonlyargs
                    self.assertFalse(unplain, where(path, node))
                    self.assertIsNone(node.returns, where(path, node))
                    self.assertFalse([one for one in held.args if one.annotation], where(path, node))
                if isinstance(node, ast.ClassDef):
                    self.assertLessEqual(len(node.bases), 1, where(path, node))
                    for part in node.body:
                        self.assertIsInstance(part, (ast.FunctionDef, ast.Pass), where(path, part))

    def test_names(self):
        for path, text, tree in self.each():
            for name in bound_names(tree):
                if name not in DUNDER_METHODS:
                    self.assertRegex(name, r"\A[A-Za-z][A-Za-z0-9_]*\Z")
                    self.assertFalse(hasattr(builtins, name), (path.name, name))
                self.assertNotIn(name, UNUSED)
            for node in ast.walk(tree):
                if isinstance(node, ast.Name) and hasattr(builtins, node.id):
                    self.assertIn(node.id, OWN_NAMES, where(path, node))
                if isinstance(node, ast.Attribute):
                    self.assertNotIn(node.attr, UNUSED, where(path, node))

    def test_methods(self):
        free = METHODS | self.own_methods() | {"add", "discard"}
        for path, text, tree in self.each():
            for node in ast.walk(tree):
                if isinstance(node, ast.Call) and isinstance(node.func, ast.Attribute):
                    self.assertIn(node.func.attr, free, where(path, node))

    def test_methods_and_values(self):
        methods = self.own_methods()
        values = set()
        for path, text, tree in self.each():
            tops = top_names(tree)
            for node in ast.walk(tree):
                if isinstance(node, ast.Attribute) and isinstance(node.ctx, ast.Store):
                    values.add(node.attr)
                    self.assertIsInstance(node.value, ast.Name, where(path, node))
                    self.assertNotIn(node.value.id, tops, where(path, node))
                if isinstance(node, ast.ClassDef):
                    named = [part.name for part in node.body if isinstance(part, ast.FunctionDef)]
                    self.assertEqual(len(set(named)), len(named), where(path, node))
        self.assertFalse(methods & values)
        self.assertFalse((values & PYTHONS_OWN) - VALUES)
        self.assertFalse((methods & PYTHONS_OWN) - METHODS - {"add", "discard"})

    def test_classes_are_not_handed_on(self):
        trees = [ast.parse(path.read_text(encoding="utf-8")) for path in FILES]
        classes = {node.name for tree in trees for node in ast.walk(tree) if isinstance(node, ast.ClassDef)}
        for path, text, tree in self.each():
            above = parents(tree)
            for node in ast.walk(tree):
                if isinstance(node, ast.Name) and node.id in classes:
                    over = above[node] if not isinstance(above[node], ast.Tuple) else above[above[node]]
                    is_called = isinstance(over, ast.Call) and over.func == node or called(over) == "isinstance"
                    is_base = isinstance(over, ast.Attribute) and over.attr == "__init__"
                    self.assertTrue(
                        is_called or is_base or isinstance(over, (ast.ClassDef, ast.ExceptHandler)), where(path, node)
                    )

    def test_two_underscores(self):
        for path, text, tree in self.each():
            for node in ast.walk(tree):
                if isinstance(node, ast.FunctionDef) and node.name == "__init__":
                    told = [part for part in ast.walk(node) if isinstance(part, ast.Return) and part.value is not None]
                    self.assertFalse(told, where(path, node))
                elif isinstance(node, ast.FunctionDef) and node.name.startswith("__"):
                    self.fail(f"best not written: {where(path, node)}")

    def test_two_forms(self):
        for path, text, tree in self.each():
            rows = []
            for node in ast.walk(tree):
                if isinstance(node, ast.Set):
                    self.assertLess(len(node.elts), 3, where(path, node))
                if isinstance(node, ast.Lambda):
                    rows.append((node.lineno, [one.arg for one in node.args.args]))
            self.assertFalse([row for row in rows if rows.count(row) > 1], path.name)

    def test_is_and_numbers_and_texts(self):
        for path, text, tree in self.each():
            for node in ast.walk(tree):
                if isinstance(node, ast.Compare) and [op for op in node.ops if isinstance(op, (ast.Is, ast.IsNot))]:
                    beside = repr(getattr(node.comparators[0], "value", 0))
                    self.assertIn(beside, ("None", "True", "False"), where(path, node))
                if isinstance(node, ast.Constant):
                    self.assertIn(type(node.value), (int, str, bool, type(None)), where(path, node))
                    self.assertNotIn("%", str(node.value), where(path, node))
                if isinstance(node, ast.BinOp) and isinstance(node.op, ast.Pow):
                    self.assertIsInstance(node.right, ast.Constant, where(path, node))
                if isinstance(node, ast.FormattedValue):
                    self.assertIsInstance(node.value, ast.Name, where(path, node))
                    self.assertIsNone(node.format_spec, where(path, node))

    def test_walked_at_once(self):
        for path, text, tree in self.each():
            above = parents(tree)
            for node in ast.walk(tree):
                if called(node) in WALKED:
                    over = above[node]
                    walks = isinstance(over, (ast.For, ast.comprehension)) and over.iter == node
                    self.assertTrue(walks or called(over) in WALKERS and over.args[0] == node, where(path, node))
                if called(node) == "set":
                    over = above[node]
                    asked = isinstance(over, (ast.Compare, ast.BinOp))
                    self.assertTrue(asked or called(over) in ("sorted", "len"), where(path, node))

    def test_views_are_walked_at_once(self):
        for path, text, tree in self.each():
            above = parents(tree)
            for node in ast.walk(tree):
                if isinstance(node, ast.Call) and getattr(node.func, "attr", "") in ("items", "keys", "values"):
                    over = above[node]
                    walks = isinstance(over, (ast.For, ast.comprehension)) and over.iter == node
                    self.assertTrue(walks or called(over) in WALKERS and over.args[0] == node, where(path, node))

    def test_what_a_loop_walks_is_not_changed(self):
        for path, text, tree in self.each():
            for loop in [node for node in ast.walk(tree) if isinstance(node, ast.For)]:
                walked = {ast.unparse(part) for part in walked_in(loop.iter)}
                for node in [node for part in loop.body for node in ast.walk(part)]:
                    if isinstance(node, ast.Subscript) and isinstance(node.ctx, ast.Store):
                        self.assertNotIn(ast.unparse(node.value), walked, where(path, node))
                    if isinstance(node, ast.Call) and getattr(node.func, "attr", "") in CHANGES:
                        self.assertNotIn(ast.unparse(node.func.value), walked, where(path, node))
                    if isinstance(node, ast.AugAssign):
                        self.assertNotIn(ast.unparse(node.target), walked, where(path, node))

    def test_locals_are_not_called_like_imports_or_classes(self):
        for path, text, tree in self.each():
            drawn = [node for node in tree.body if isinstance(node, (ast.ImportFrom, ast.ClassDef))]
            taken = set(top_names(ast.Module(body=drawn, type_ignores=[])))
            for node in ast.walk(tree):
                if isinstance(node, ast.arg):
                    self.assertNotIn(node.arg, taken, where(path, node))
                if isinstance(node, ast.Name) and isinstance(node.ctx, ast.Store):
                    self.assertNotIn(node.id, taken, where(path, node))

    def test_errors(self):
        for path, text, tree in self.each():
            for node in ast.walk(tree):
                if isinstance(node, ast.ExceptHandler):
                    self.assertIsNotNone(node.type, where(path, node))
                    names = [part.id for part in ast.walk(node.type) if isinstance(part, ast.Name)]
                    self.assertFalse({"Exception", "TypeError"} & set(names), where(path, node))
                if isinstance(node, ast.Raise):
                    self.assertIsInstance(node.exc, ast.Call, where(path, node))
