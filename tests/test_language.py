"""The package keeps to the plain part of Python that it is written in, as far as that can be seen from its text."""

import ast
import builtins
import pathlib
import re
import unittest

PACKAGE = pathlib.Path(__file__).resolve().parent.parent / "leanscript"

BUILTINS = set("""len range enumerate zip min max sum abs sorted reversed int str bool list tuple dict set isinstance ord repr
any all divmod iter next type Exception ValueError TypeError KeyError IndexError LookupError ZeroDivisionError""".split())

METHODS = set("""append clear copy count endswith extend find get index insert isalnum isalpha isdigit islower isspace isupper
items join keys ljust lower lstrip partition pop remove replace reverse rfind rjust rpartition rsplit rstrip setdefault split
splitlines startswith strip update upper values zfill bit_length""".split())

BARRED = set("""mro elements open input law version_info with_traceback add_note register attrgetter breakpoint builtins compile
copyright credits delattr dir eval exec exit gc globals help id importlib license locals methodcaller os quit super vars sys
typing enum Enum dataclass namedtuple NamedTuple Protocol ABC abstractmethod""".split())

NODES = (
    ast.Module, ast.Expr, ast.ImportFrom, ast.alias, ast.FunctionDef, ast.arguments, ast.arg, ast.ClassDef, ast.Assign,
    ast.AugAssign, ast.If, ast.While, ast.For, ast.Return, ast.Break, ast.Continue, ast.Pass, ast.Raise, ast.Assert, ast.Delete,
    ast.Try, ast.ExceptHandler, ast.Name, ast.Attribute, ast.Subscript, ast.Slice, ast.Tuple, ast.List, ast.Dict, ast.Starred,
    ast.Constant, ast.Call, ast.keyword, ast.BinOp, ast.UnaryOp, ast.BoolOp, ast.Compare, ast.IfExp, ast.Lambda, ast.ListComp,
    ast.DictComp, ast.comprehension, ast.expr_context, ast.boolop, ast.operator, ast.unaryop, ast.cmpop,
)


def files():
    return sorted(PACKAGE.rglob("*.py"))


def nodes():
    """All nodes of all files: tuples (place, node)."""
    for file in files():
        for node in ast.walk(ast.parse(file.read_text())):
            yield f"{file.name}:{getattr(node, 'lineno', 0)}", node


def names_bound(node):
    """The names that a node gives a meaning."""
    if isinstance(node, (ast.FunctionDef, ast.ClassDef)):
        return [node.name]
    if isinstance(node, ast.arg):
        return [node.arg]
    if isinstance(node, ast.Name) and isinstance(node.ctx, ast.Store):
        return [node.id]
    if isinstance(node, ast.alias):
        return [node.asname or node.name]
    if isinstance(node, ast.ExceptHandler) and node.name:
        return [node.name]
    return []


def methods_defined():
    """Tuples (place, name) of all methods."""
    return [(f"{place.split(':')[0]}:{method.lineno}", method.name) for place, node in nodes() if isinstance(node, ast.ClassDef)
            for method in node.body if isinstance(method, ast.FunctionDef)]


def parents(tree):
    """For each node of a tree the one in which it stands straight."""
    return {inner: node for node in ast.walk(tree) for inner in ast.iter_child_nodes(node)}


class Files(unittest.TestCase):

    def test_nothing_else_in_the_folder(self):
        for path in PACKAGE.rglob("*"):
            if "__pycache__" not in path.parts:
                self.assertRegex(path.name, r"^[a-z_][a-z0-9_]*\.py$")
        self.assertTrue((PACKAGE / "__init__.py").exists())

    def test_signs_and_sizes(self):
        for file in files():
            text = file.read_text()
            self.assertRegex(text, re.compile(r"^[ -~\n]*$"), file.name)
            lines = text.split("\n")
            self.assertLessEqual(len(lines), 399, file.name)
            self.assertLessEqual(max(len(line) for line in lines), 120, file.name)

    def test_functions_are_small(self):
        for place, node in nodes():
            if isinstance(node, ast.FunctionDef):
                self.assertLessEqual(node.end_lineno - node.lineno + 1, 40, place)

    def test_module_level(self):
        for file in files():
            bound = {}
            for node in ast.parse(file.read_text()).body:
                self.assertIsInstance(node, (ast.Expr, ast.ImportFrom, ast.FunctionDef, ast.ClassDef, ast.Assign), file.name)
                if isinstance(node, ast.Expr):
                    self.assertIsInstance(node.value, ast.Constant, file.name)
                rows = node.names if isinstance(node, ast.ImportFrom) else node.targets if isinstance(node, ast.Assign) else [node]
                for name in [name for row in rows for name in names_bound(row)]:
                    self.assertNotIn(name, bound, file.name)
                    bound[name] = True


class Words(unittest.TestCase):

    def test_plain_statements_and_expressions(self):
        for place, node in nodes():
            self.assertIsInstance(node, NODES, place)
            self.assertNotIsInstance(node, (ast.Div, ast.MatMult), place)
            if isinstance(node, (ast.FunctionDef, ast.ClassDef)):
                self.assertEqual(node.decorator_list, [], place)
            if isinstance(node, ast.Constant):
                self.assertIn(type(node.value), (int, str, bool, type(None)), place)
                if isinstance(node.value, str):
                    self.assertNotIn("%", node.value, place)

    def test_no_star_in_an_index(self):
        for place, node in nodes():
            if isinstance(node, ast.Subscript):
                self.assertFalse([one for one in ast.walk(node.slice) if isinstance(one, ast.Starred)], place)

    def test_behind_a_star_in_a_call_stands_what_is_plain(self):
        plain = (ast.Name, ast.Attribute, ast.Constant, ast.List, ast.Tuple, ast.Dict)
        for place, node in nodes():
            if isinstance(node, ast.Call) and any(isinstance(one, ast.Starred) for one in node.args):
                first = [isinstance(one, ast.Starred) for one in node.args].index(True)
                for one in node.args[first:]:
                    self.assertIsInstance(one.value if isinstance(one, ast.Starred) else one, plain, place)

    def test_what_is_iterated_stands_where_it_is_iterated(self):
        steps = ("zip", "enumerate", "reversed", "range")
        takers = ("list", "tuple", "dict", "sorted", "sum", "any", "all", "enumerate", "zip", "min", "max")
        for file in files():
            tree = ast.parse(file.read_text())
            around = parents(tree)
            for node in ast.walk(tree):
                if not isinstance(node, ast.Call):
                    continue
                is_view = isinstance(node.func, ast.Attribute) and node.func.attr in ("items", "keys", "values")
                if is_view or isinstance(node.func, ast.Name) and node.func.id in steps:
                    outer = around[node]
                    taken = isinstance(outer, ast.Call) and isinstance(outer.func, ast.Name) and outer.func.id in takers
                    looped = isinstance(outer, (ast.For, ast.comprehension)) and outer.iter is node
                    self.assertTrue(taken or looped, f"{file.name}:{node.lineno}")

    def test_sets_stand_where_they_may(self):
        for file in files():
            tree = ast.parse(file.read_text())
            around = parents(tree)
            for node in ast.walk(tree):
                if isinstance(node, ast.Call) and isinstance(node.func, ast.Name) and node.func.id == "set":
                    outer = around[node]
                    taken = isinstance(outer, ast.Call) and isinstance(outer.func, ast.Name) and outer.func.id in ("sorted", "len")
                    self.assertTrue(taken and not outer.keywords, f"{file.name}:{node.lineno}")

    def test_keywords_of_builtins(self):
        known = {"sorted": ("key", "reverse"), "min": ("key", "default"), "max": ("key", "default"), "sum": ("start",), "enumerate": ("start",),
                 "zip": ("strict",)}
        for place, node in nodes():
            if isinstance(node, ast.Call) and isinstance(node.func, ast.Name) and node.func.id in BUILTINS:
                for keyword in node.keywords:
                    self.assertIn(keyword.arg, known.get(node.func.id, ()), place)

    def test_errors_are_made_where_they_are_raised(self):
        for place, node in nodes():
            if isinstance(node, ast.Raise):
                self.assertTrue(node.exc is None or isinstance(node.exc, ast.Call) and isinstance(node.exc.func, ast.Name), place)
            if isinstance(node, ast.ExceptHandler):
                self.assertIsInstance(node.type, ast.Name, place)
                self.assertNotIn(node.type.id, dir(builtins), place)

    def test_imports(self):
        graph = {}
        for file in files():
            mine = graph.setdefault("leanscript." + file.stem, [])
            for node in ast.parse(file.read_text()).body:
                if isinstance(node, ast.ImportFrom):
                    self.assertEqual(node.level, 0)
                    self.assertTrue(node.module.startswith("leanscript."), file.name)
                    mine.append(node.module)
                    source = ast.parse((PACKAGE / (node.module.split(".")[1] + ".py")).read_text())
                    defined = [name for row in source.body for one in (row.targets if isinstance(row, ast.Assign) else [row])
                               for name in names_bound(one)]
                    for alias in node.names:
                        self.assertIsNone(alias.asname)
                        self.assertIn(alias.name, defined, file.name)
        done = {}
        while len(done) < len(graph):
            ready = [name for name in graph if name not in done and all(other in done for other in graph[name])]
            self.assertTrue(ready, "files that import from each other")
            done.update({name: True for name in ready})

    def test_imports_are_used(self):
        for file in files():
            tree = ast.parse(file.read_text())
            used = {node.id for node in ast.walk(tree) if isinstance(node, ast.Name)}
            for node in tree.body:
                if isinstance(node, ast.ImportFrom):
                    for alias in node.names:
                        self.assertIn(alias.name, used, file.name)

    def test_names(self):
        methods = methods_defined()
        for place, node in nodes():
            for name in names_bound(node):
                self.assertNotIn(name, BUILTINS if (place, name) in methods else dir(builtins), place)
                self.assertNotIn(name, BARRED, place)
                if not (name.startswith("__") and name.endswith("__")):
                    self.assertRegex(name, r"^(_|_?[A-Za-z][A-Za-z0-9_]*)$", place)
            if isinstance(node, ast.Name):
                self.assertNotIn(node.id, BARRED, place)
                if isinstance(node.ctx, ast.Load):
                    self.assertNotEqual(node.id, "_", place)
                    self.assertTrue(node.id in BUILTINS or node.id not in dir(builtins), f"{place} {node.id}")

    def test_no_local_name_is_that_of_an_import_or_a_class(self):
        for file in files():
            tree = ast.parse(file.read_text())
            taken = [name for node in tree.body if isinstance(node, (ast.ImportFrom, ast.ClassDef))
                     for row in (node.names if isinstance(node, ast.ImportFrom) else [node]) for name in names_bound(row)]
            for function in [node for node in ast.walk(tree) if isinstance(node, ast.FunctionDef)]:
                for node in ast.walk(function):
                    if node is not function:
                        for name in names_bound(node):
                            self.assertNotIn(name, taken, f"{file.name}:{function.lineno}")

    def test_methods_and_attributes(self):
        own = {node.name for _, node in nodes() if isinstance(node, ast.FunctionDef)}
        stored = {node.attr for _, node in nodes() if isinstance(node, ast.Attribute) and isinstance(node.ctx, ast.Store)}
        of_values = {name for value in ("", 0, [], {}, set(), b"", ()) for name in dir(value)}
        self.assertEqual(stored & of_values, set())
        for place, node in nodes():
            if isinstance(node, ast.Call) and isinstance(node.func, ast.Attribute):
                self.assertTrue(node.func.attr in METHODS or node.func.attr in own or node.func.attr == "__init__",
                                f"{place} {node.func.attr}")
            elif isinstance(node, ast.Attribute):
                self.assertTrue(node.attr in stored or node.attr in METHODS or node.attr in own, f"{place} {node.attr}")

    def test_what_is_compared_by_is(self):
        for place, node in nodes():
            if isinstance(node, ast.Compare):
                for sign, right in zip(node.ops, node.comparators):
                    if isinstance(sign, (ast.Is, ast.IsNot)):
                        plain = isinstance(right, ast.Constant) and right.value in (None, True, False)
                        of_kind = isinstance(right, ast.Name) and isinstance(node.left, ast.Call)
                        self.assertTrue(plain or of_kind, place)


if __name__ == "__main__":
    unittest.main()
