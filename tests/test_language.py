"""The form of the code: those rules of LANGUAGE.md that can be seen in one file at a time."""

import ast
import pathlib
import re
import unittest

PACKAGE = pathlib.Path(__file__).resolve().parent.parent / "coveredday"
FILES = sorted(path for path in PACKAGE.rglob("*") if path.is_file() and "__pycache__" not in path.parts)
BUILTINS = set("""len range enumerate zip min max sum abs sorted reversed int str bool list tuple dict set frozenset
isinstance ord repr any all divmod iter next map Exception ValueError TypeError KeyError IndexError LookupError
ZeroDivisionError ArithmeticError OverflowError RuntimeError NotImplementedError AttributeError StopIteration
NotImplemented property staticmethod classmethod super""".split())
METHODS = set("""append clear copy count endswith extend find get index insert isalnum isalpha isdigit islower isspace
isupper items join keys ljust lower lstrip partition pop remove replace reverse rfind rjust rpartition rsplit rstrip
setdefault split splitlines startswith strip update upper values zfill bit_length add discard title capitalize
swapcase casefold center expandtabs removeprefix removesuffix rindex isascii isdecimal isnumeric istitle isidentifier
isprintable translate""".split())
DUNDERS = set("""init eq repr str len enter exit call iter lt le gt ge ne add sub mul floordiv mod pow and or xor lshift
rshift radd rsub rmul rfloordiv rmod rand ror rxor rlshift rrshift iadd isub imul ifloordiv imod ipow iand ior ixor
ilshift irshift neg pos invert abs bool contains getitem setitem""".split())
BARRED = set("""type typing typing_extensions enum Enum IntEnum StrEnum Flag IntFlag Generic Protocol ABC ABCMeta
namedtuple NamedTuple TypedDict TYPE_CHECKING abstractmethod""".split())
FORBIDDEN = (ast.Global, ast.AsyncFunctionDef, ast.AsyncFor, ast.AsyncWith, ast.Await, ast.Div, ast.Import, ast.TryStar,
             ast.MatMult)
TAKERS = ("list", "tuple", "dict", "sorted", "sum", "enumerate", "zip")
CHANGING = set("""append clear extend insert pop remove reverse setdefault sort update add discard""".split())
LIBRARY = {"heapq": "heapify heapreplace heappushpop heappush heappop", "math": "gcd lcm isqrt comb perm factorial"}


def parents_of(tree):
    return {child: parent for parent in ast.walk(tree) for child in ast.iter_child_nodes(parent)}


def called(node):
    """The bare name that a call calls, or None."""
    return node.func.id if isinstance(node, ast.Call) and isinstance(node.func, ast.Name) else None


def alike_names(function):
    """For each name that a function assigns the names that may stand for the same list, itself included."""
    alike = {node.id: {node.id} for node in ast.walk(function) if isinstance(node, ast.Name)}
    for node in ast.walk(function):
        if isinstance(node, ast.Assign) and isinstance(node.value, ast.Name):
            for target in node.targets:
                if isinstance(target, ast.Name):
                    together = alike[target.id] | alike[node.value.id]
                    for name in together:
                        alike[name] = together
    return alike


def walked_names(node):
    """The names of what a loop or a comprehension goes over, also through zip, enumerate, items and choices."""
    if isinstance(node, ast.Name):
        return {node.id}
    parts = []
    if called(node) in ("zip", "enumerate", "reversed"):
        parts = node.args
    elif isinstance(node, ast.Call) and isinstance(node.func, ast.Attribute):
        parts = [node.func.value] if node.func.attr in ("items", "keys", "values") else []
    elif isinstance(node, ast.IfExp):
        parts = [node.body, node.orelse]
    elif isinstance(node, ast.BoolOp):
        parts = node.values
    return {name for part in parts for name in walked_names(part)}


def changed_names(nodes):
    """The names of what the statements change in its place."""
    found = set()
    for node in [part for one in nodes for part in ast.walk(one)]:
        if isinstance(node, ast.Call) and isinstance(node.func, ast.Attribute) and node.func.attr in CHANGING:
            found.add(node.func.value)
        elif isinstance(node, ast.Subscript) and isinstance(node.ctx, (ast.Store, ast.Del)):
            found.add(node.value)
        elif isinstance(node, ast.AugAssign):
            found.add(node.target)
    return {node.id for node in found if isinstance(node, ast.Name)}


def walked_and_changed(function):
    """The rows of the loops in a function that change what they walk, by whatever name."""
    alike = alike_names(function)
    for node in ast.walk(function):
        if isinstance(node, ast.For):
            walked = {name for one in walked_names(node.iter) for name in alike[one]}
            if walked & changed_names(node.body):
                yield node.lineno


class TestLanguage(unittest.TestCase):
    def setUp(self):
        self.texts = {path.stem: path.read_text(encoding="utf-8") for path in FILES}
        self.trees = {name: ast.parse(text) for name, text in self.texts.items()}

    def nodes(self, *kinds):
        """The pairs (file, node) of all nodes of these kinds."""
        for name, tree in self.trees.items():
            for node in ast.walk(tree):
                if isinstance(node, kinds):
                    yield name, node

    def test_files(self):
        for path in FILES:
            self.assertRegex(path.name, r"^[a-z][a-z0-9_]*\.py$|^__init__\.py$")
            self.assertEqual(path.parent, PACKAGE)

    def test_sizes_and_characters(self):
        for name, text in self.texts.items():
            self.assertRegex(text, r"\A[ -~\n]*\Z", name)
            lines = text.split("\n")
            self.assertLess(len(lines), 400, name)
            self.assertLessEqual(max(map(len, lines)), 120, name)
        for name, node in self.nodes(ast.FunctionDef):
            self.assertLessEqual(node.end_lineno - node.lineno + 1, 40, (name, node.name))

    def test_statements_and_expressions(self):
        for name, node in self.nodes(*FORBIDDEN):
            self.fail((name, node.lineno, node))
        for name, node in self.nodes(ast.Constant):
            self.assertNotIsInstance(node.value, (float, complex), name)
            if isinstance(node.value, str):
                self.assertNotIn("%", node.value, (name, node.lineno))
                self.assertIsNone(re.match(r"__.*__\Z|.*\._{1,2}\Z", node.value), (name, node.lineno))
        for name, node in self.nodes(ast.Compare):
            for sign, right in zip(node.ops, node.comparators):
                if isinstance(sign, (ast.Is, ast.IsNot)):
                    self.assertIsInstance(right, ast.Constant, (name, node.lineno))

    def test_module_level(self):
        plain = (ast.ImportFrom, ast.FunctionDef, ast.ClassDef, ast.Assign)
        for name, tree in self.trees.items():
            for node in tree.body[1 if ast.get_docstring(tree) else 0:]:
                self.assertIsInstance(node, plain, (name, node.lineno))
                if isinstance(node, ast.Assign):
                    self.assertIsInstance(node.targets[0], ast.Name, (name, node.lineno))
                    self.assertFalse([part for part in ast.walk(node.value) if isinstance(part, ast.Call)], name)

    def test_imports(self):
        leads = {}
        for name, node in self.nodes(ast.ImportFrom):
            self.assertIn(node, self.trees[name].body)
            names = {alias.name for alias in node.names}
            self.assertFalse([alias for alias in node.names if alias.asname], name)
            if node.module in LIBRARY:
                self.assertLessEqual(names, set(LIBRARY[node.module].split()))
                continue
            package, module = node.module.split(".")
            self.assertEqual((package, node.level), ("coveredday", 0))
            defined = set()
            for part in self.trees[module].body:
                if isinstance(part, ast.Assign):
                    defined.add(part.targets[0].id)
                elif not isinstance(part, (ast.ImportFrom, ast.Expr)):
                    defined.add(part.name)
            self.assertLessEqual(names, defined, name)
            leads.setdefault(name, set()).add(module)
        while leads:
            ends = [name for name in leads if not leads[name] & set(leads)]
            self.assertTrue(ends, "files import from each other")
            leads = {name: modules for name, modules in leads.items() if name not in ends}

    def test_names(self):
        for name, tree in self.trees.items():
            own = {part.name for part in tree.body if isinstance(part, (ast.FunctionDef, ast.ClassDef))}
            bound = {alias.name for part in tree.body if isinstance(part, ast.ImportFrom) for alias in part.names}
            module = {part.targets[0].id for part in tree.body if isinstance(part, ast.Assign)}
            self.assertFalse(own & bound or own & module or bound & module, name)
            local = {node.arg for node in ast.walk(tree) if isinstance(node, ast.arg)}
            stored = {node.id for node in ast.walk(tree) if isinstance(node, ast.Name) and node.id not in module
                      and isinstance(node.ctx, ast.Store)}
            classes = {part.name for part in tree.body if isinstance(part, ast.ClassDef)}
            self.assertFalse((local | stored) & (bound | classes), name)
            self.assertFalse((local | stored | own | module) & set(dir(__builtins__) if not isinstance(
                __builtins__, dict) else __builtins__), name)
            read = {node.id for node in ast.walk(tree) if isinstance(node, ast.Name) and isinstance(node.ctx, ast.Load)}
            caught = {node.name for node in ast.walk(tree) if isinstance(node, ast.ExceptHandler)}
            captured = {node.name for node in ast.walk(tree) if isinstance(node, ast.MatchAs) and node.name}
            self.assertFalse(captured & (bound | own | module | classes), name)
            self.assertFalse(caught & (bound | own | module | local | stored), name)
            self.assertLessEqual(read, own | bound | module | local | stored | caught | captured | BUILTINS, name)
            self.assertNotIn("_", read)
            words = set(re.findall(r"\w+", "\n".join(self.without_docstrings(name))))
            self.assertFalse(words & BARRED, name)

    def without_docstrings(self, name):
        """The lines of a file, but for comments and docstrings."""
        lines = self.texts[name].split("\n")
        for node in ast.walk(self.trees[name]):
            if isinstance(node, ast.Expr) and isinstance(node.value, ast.Constant):
                for number in range(node.lineno - 1, node.end_lineno):
                    lines[number] = ""
        return [line.split("#")[0] for line in lines]

    def test_classes_and_functions(self):
        for name, node in self.nodes(ast.FunctionDef):
            if node.name.startswith("__"):
                self.assertIn(node.name.strip("_"), DUNDERS, name)
            for mark in node.decorator_list:
                right = mark.id in ("property", "staticmethod", "classmethod") if isinstance(
                    mark, ast.Name) else mark.attr == "setter"
                self.assertTrue(right, (name, node.name))
            self.assertIsNone(node.returns, (name, node.name))
        for name, node in self.nodes(ast.ClassDef):
            self.assertFalse(node.decorator_list or node.keywords, (name, node.name))
            methods = [part.name for part in node.body if isinstance(part, ast.FunctionDef) and not part.decorator_list]
            attributes = {part.attr for part in ast.walk(node) if isinstance(part, ast.Attribute)
                          and isinstance(part.ctx, ast.Store)}
            self.assertEqual(len(methods), len(set(methods)), (name, node.name))
            self.assertFalse(attributes & set(methods), (name, node.name))
            if "__getitem__" in methods:
                self.assertIn("__iter__", methods, (name, node.name))

    def test_called_methods(self):
        own = {node.name for _, node in self.nodes(ast.FunctionDef)}
        for name, node in self.nodes(ast.Call):
            if isinstance(node.func, ast.Attribute):
                self.assertIn(node.func.attr, METHODS | own, (name, node.lineno))

    def test_own_methods_are_called_where_they_stand(self):
        stored = {node.attr for _, node in self.nodes(ast.Attribute) if isinstance(node.ctx, ast.Store)}
        own = {part.name for _, node in self.nodes(ast.ClassDef) for part in node.body
               if isinstance(part, ast.FunctionDef) and not part.decorator_list} - stored
        for name, tree in self.trees.items():
            parents = parents_of(tree)
            for node in ast.walk(tree):
                if isinstance(node, ast.Attribute) and node.attr in own:
                    around = parents[node]
                    self.assertTrue(isinstance(around, ast.Call) and around.func is node, (name, node.lineno, node.attr))

    def test_what_stands_in_exits(self):
        for name, node in self.nodes(ast.FunctionDef):
            if node.name == "__exit__":
                self.assertEqual([arg.arg for arg in node.args.args], ["self", "kind", "value", "trace"])
                for part in node.body:
                    rows = part.value if isinstance(part, ast.Expr) else None
                    right = isinstance(rows, ast.Call) and rows.func.attr == "append" and isinstance(rows.args[0], ast.Attribute)
                    self.assertTrue(right, (name, part.lineno))

    def test_sets_and_what_is_iterated_at_once(self):
        for name, tree in self.trees.items():
            parents = parents_of(tree)
            for node in ast.walk(tree):
                if isinstance(node, (ast.Set, ast.SetComp)) or called(node) == "set":
                    around = parents[node]
                    right = called(around) in ("sorted", "len") or isinstance(around, (ast.Compare, ast.Assign))
                    self.assertTrue(right, (name, node.lineno))
                if isinstance(node, ast.GeneratorExp):
                    self.assertIn(called(parents[node]), ("list", "tuple", "dict"), (name, node.lineno))
                if called(node) in ("zip", "enumerate", "reversed", "map"):
                    around = parents[node]
                    right = isinstance(around, (ast.For, ast.comprehension, ast.Assign))
                    self.assertTrue(right or called(around) in TAKERS, (name, node.lineno))

    def test_what_a_loop_walks_is_not_changed_in_it(self):
        for name, node in self.nodes(ast.FunctionDef):
            self.assertEqual(list(walked_and_changed(node)), [], (name, node.name))

    def test_that_loops_which_change_what_they_walk_are_seen(self):
        for rows, wrong in (
                ("for a in xs:\n  xs.append(a)", [2]), ("for a in list(xs):\n  xs.append(a)", []),
                ("for a in xs:\n  ys.append(a)", []), ("for a in xs:\n  ys.append(a)\n xs = ys", [2]),
                ("ys = xs\n for a in enumerate(xs):\n  del ys[0]", [3]), ("for a in xs.items():\n  xs[0] = a", [2]),
                ("for a in (xs if xs else ys):\n  ys.pop()", [2]), ("for a in zip(ys, xs):\n  ys += [1]", [2])):
            tree = ast.parse("def told(xs, ys):\n " + rows)
            self.assertEqual(list(walked_and_changed(tree.body[0])), wrong, rows)


if __name__ == "__main__":
    unittest.main()
