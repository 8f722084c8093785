"""The files of the package keep to the small language in which they are to be written."""

import ast
import builtins
import os
import unittest

HERE = os.path.dirname(os.path.dirname(os.path.abspath(__file__)))
PACKAGE = os.path.join(HERE, "stepsunread")
LIBRARY = {
    "heapq": {"heappush", "heappop", "heapify", "heapreplace", "heappushpop"},
    "math": {"gcd", "lcm", "isqrt", "comb", "perm", "factorial"},
    "itertools": {"product", "combinations", "permutations"},
}
BUILTINS = set(
    "len range enumerate zip min max sum abs sorted reversed int str bool list tuple dict set "
    "isinstance ord repr any all divmod iter next map Exception ValueError TypeError KeyError "
    "IndexError LookupError NotImplemented property super".split()
)
METHODS = set(
    "append clear copy count endswith extend find get index insert isalnum isalpha isdigit islower "
    "isspace isupper items join keys ljust lower lstrip partition pop remove replace reverse rfind "
    "rjust rpartition rsplit rstrip setdefault split splitlines startswith strip update upper values "
    "zfill bit_length isascii isdecimal".split()
)
BARRED_NAMES = set("register mro elements open input law".split())
BARRED_WORDS = set(
    "type typing typing_extensions enum Enum IntEnum StrEnum Flag IntFlag Generic Protocol ABC "
    "ABCMeta namedtuple NamedTuple TypedDict TYPE_CHECKING abstractmethod".split()
)
ONLY_LISTS = {"any", "all", "min", "max", "sum", "sorted"}
ON_THE_SPOT = {"zip", "enumerate", "reversed", "range", "items", "keys", "values", "map"}
TAKERS = {"list", "tuple", "dict", "sorted", "sum", "any", "all", "enumerate", "zip", "min", "max"}
BARRED_NODES = (
    ast.Global, ast.AsyncFunctionDef, ast.AsyncFor, ast.AsyncWith, ast.Await, ast.GeneratorExp,
    ast.Div, ast.MatMult, ast.Yield, ast.YieldFrom, ast.Import,
)


def modules():
    """(name, text, tree) of each file of the package."""
    for name in sorted(os.listdir(PACKAGE)):
        if name != "__pycache__":
            with open(os.path.join(PACKAGE, name), encoding="utf-8") as held:
                text = held.read()
            yield name, text, ast.parse(text)


def called(node):
    """The name that a call calls, without the object of a method."""
    if isinstance(node.func, ast.Name):
        return node.func.id
    return node.func.attr if isinstance(node.func, ast.Attribute) else None


def asks_only_none(node):
    """Whether a test asks of names and attributes no more than whether they are None."""
    if isinstance(node, ast.BoolOp):
        return all(map(asks_only_none, node.values))
    if isinstance(node, ast.UnaryOp):
        return isinstance(node.op, ast.Not) and asks_only_none(node.operand)
    return (isinstance(node, ast.Compare) and isinstance(node.left, (ast.Name, ast.Attribute))
            and len(node.ops) == 1 and isinstance(node.ops[0], (ast.Is, ast.IsNot))
            and isinstance(node.comparators[0], ast.Constant) and node.comparators[0].value is None)


def is_simple(node):
    """Whether a value is a name, an attribute, a literal, or a list or tuple of such, or such + such."""
    if isinstance(node, (ast.List, ast.Tuple)):
        return all(map(is_simple, node.elts))
    if isinstance(node, ast.BinOp):
        return isinstance(node.op, ast.Add) and is_simple(node.left) and is_simple(node.right)
    return isinstance(node, (ast.Name, ast.Attribute, ast.Constant))


def is_row_of_exit(node):
    """Whether a statement may stand in `__exit__`, in a package with classes that have `__eq__`."""
    if isinstance(node, ast.If):
        return asks_only_none(node.test) and all(map(is_row_of_exit, node.body + node.orelse))
    if isinstance(node, ast.Assign):
        return len(node.targets) == 1 and isinstance(node.targets[0], ast.Attribute) and is_simple(node.value)
    if isinstance(node, ast.Return):
        return node.value is None or (isinstance(node.value, ast.Constant) and node.value.value in (None, False))
    return isinstance(node, ast.Pass)


def breaks_exit(node):
    """The rows of an `__exit__`, and the names it reads, that rule L6 does not allow."""
    told = [row.lineno for row in node.body if not is_row_of_exit(row)]
    asked = [part.left for part in ast.walk(node) if isinstance(part, ast.Compare)]
    _, kind, *barred = [part.arg for part in node.args.args]
    for part in ast.walk(node):
        if isinstance(part, ast.Name) and (part.id in barred or (part.id == kind and part not in asked)):
            told.append(part.lineno)
    return told


def bound_names(tree):
    """All names that are bound by parameters and assignments within functions, with their nodes."""
    for node in ast.walk(tree):
        if isinstance(node, ast.arg):
            yield node.arg, node
        elif isinstance(node, ast.Name) and isinstance(node.ctx, ast.Store):
            yield node.id, node


class LanguageTest(unittest.TestCase):
    def test_files(self):
        for name, text, _ in modules():
            with self.subTest(name):
                self.assertTrue(name.endswith(".py") and name == name.lower())
                self.assertLessEqual(text.count("\n"), 399)
                self.assertTrue(text.endswith("\n"))
                self.assertTrue(all(" " <= sign <= "~" or sign == "\n" for sign in text))
                self.assertLessEqual(max(len(line) for line in text.split("\n")), 120)

    def test_functions_are_small(self):
        for name, _, tree in modules():
            for node in ast.walk(tree):
                if isinstance(node, ast.FunctionDef):
                    self.assertLessEqual(node.end_lineno - node.lineno + 1, 40, (name, node.name))
                    self.assertEqual(node.decorator_list, [], (name, node.name))
                    self.assertIsNotNone(ast.get_docstring(node) or node.name.startswith("__") or None,
                                         (name, node.name))

    def test_module_level(self):
        for name, _, tree in modules():
            bound = []
            for node in tree.body:
                if isinstance(node, ast.ImportFrom):
                    bound += [alias.name for alias in node.names]
                elif isinstance(node, ast.Assign):
                    self.assertEqual(len(node.targets), 1)
                    self.assertFalse([x for x in ast.walk(node.value) if isinstance(x, ast.Call)], name)
                    bound.append(node.targets[0].id)
                elif isinstance(node, (ast.FunctionDef, ast.ClassDef)):
                    bound.append(node.name)
                else:
                    self.assertTrue(isinstance(node, ast.Expr) and node is tree.body[0], (name, node))
            self.assertEqual(len(bound), len(set(bound)), name)

    def test_imports(self):
        trees = {name[:-3]: tree for name, _, tree in modules()}
        for name, tree in trees.items():
            used = {node.id for node in ast.walk(tree) if isinstance(node, ast.Name)}
            for node in ast.walk(tree):
                if not isinstance(node, ast.ImportFrom):
                    continue
                self.assertEqual(node.level, 0)
                self.assertIn(node, tree.body)
                names = [alias.name for alias in node.names]
                self.assertFalse([alias for alias in node.names if alias.asname], name)
                self.assertEqual([x for x in names if x not in used], [], name)
                if node.module in LIBRARY:
                    self.assertLessEqual(set(names), LIBRARY[node.module])
                    continue
                package, module = node.module.split(".")
                self.assertEqual(package, "stepsunread")
                there = defined(trees[module])
                self.assertEqual([x for x in names if x not in there], [], (name, module))

    def test_no_circles_of_imports(self):
        links = {}
        for name, _, tree in modules():
            links[name[:-3]] = [node.module.split(".")[1] for node in tree.body
                                if isinstance(node, ast.ImportFrom) and "." in node.module]
        done = []
        while len(done) < len(links):
            ready = [name for name in links if name not in done and set(links[name]) <= set(done)]
            self.assertTrue(ready, sorted(set(links) - set(done)))
            done += ready

    def test_nodes(self):
        for name, _, tree in modules():
            for node in ast.walk(tree):
                self.assertNotIsInstance(node, BARRED_NODES, (name, getattr(node, "lineno", 0)))
                if isinstance(node, ast.Constant):
                    self.assertNotIsInstance(node.value, (float, complex, bytes), name)
                    if isinstance(node.value, str):
                        self.assertNotIn("%", node.value, name)
                        self.assertNotIn("__", node.value, name)
                if isinstance(node, ast.Compare):
                    for sign, right in zip(node.ops, node.comparators):
                        if isinstance(sign, (ast.Is, ast.IsNot)):
                            self.assertIn(getattr(right, "value", 0), (None, True, False), name)

    def test_powers_have_literal_exponents(self):
        for name, _, tree in modules():
            for node in ast.walk(tree):
                if isinstance(node, (ast.BinOp, ast.AugAssign)) and isinstance(node.op, ast.Pow):
                    exponent = node.right if isinstance(node, ast.BinOp) else node.value
                    self.assertIsInstance(exponent, ast.Constant, (name, node.lineno))
                    self.assertIn(exponent.value, range(65), (name, node.lineno))

    def test_managers(self):
        found = []
        for name, _, tree in modules():
            for node in ast.walk(tree):
                if isinstance(node, ast.FunctionDef) and node.name == "__exit__":
                    found.append(name)
                    self.assertEqual([len(node.args.args), node.args.vararg], [4, None], name)
                    self.assertEqual(breaks_exit(node), [], name)
                if isinstance(node, ast.Try):
                    self.assertEqual(node.finalbody, [], (name, node.lineno))
                for item in node.items if isinstance(node, ast.With) else []:
                    self.assertIsInstance(item.context_expr, (ast.Call, ast.Name, ast.Attribute), (name, node.lineno))
        self.assertEqual(found, ["trials.py"])

    def test_what_exits_may_not_do(self):
        head = "def __exit__(self, kind, value, trace):\n    "
        for row in ("pass", "return", "return False", "self.a = self.b", "self.a = (self.b, [1])", "self.a.b = kept + 1",
                    "if kind is not None or self.a is None: self.b = 0", "if not (kind is None and self.a is None): pass"):
            self.assertEqual(breaks_exit(ast.parse(head + row).body[0]), [], row)
        for row in ("return True", "return self.a", "self.shut()", "a = 1", "a[0] = 1", "self.a = self.b()", "del self.a",
                    "if self.a: pass", "if not self.a: pass", "if kind is not None or not self.a: pass", "if kind: pass",
                    "if self.a == 1: pass", "if self.a is True: pass", "if self.a is None: self.b = len(self.c)",
                    "if value is None: pass", "self.a = kind", "self.a = trace", "for a in self.b: pass"):
            self.assertEqual(breaks_exit(ast.parse(head + row).body[0])[:1], [2], row)

    def test_names(self):
        for name, text, tree in modules():
            taken = {alias.name for node in tree.body if isinstance(node, ast.ImportFrom) for alias in node.names}
            taken |= {node.name for node in tree.body if isinstance(node, ast.ClassDef)}
            for bound, node in bound_names(tree):
                self.assertNotIn(bound, dir(builtins), (name, node.lineno))
                self.assertNotIn(bound, taken, (name, node.lineno))
                self.assertNotIn(bound, BARRED_NAMES, (name, node.lineno))
            for node in ast.walk(tree):
                if isinstance(node, (ast.FunctionDef, ast.ClassDef)):
                    self.assertNotIn(node.name, BARRED_NAMES | (set(dir(builtins)) - {"__init__"}), name)
                if isinstance(node, ast.Attribute):
                    self.assertNotIn(node.attr, BARRED_NAMES | {"args", "format", "mro"}, name)
                if isinstance(node, ast.Name):
                    self.assertNotIn(node.id, BARRED_WORDS, (name, node.lineno))
                if isinstance(node, ast.Constant) and isinstance(node.value, str):
                    self.assertNotIn(node.value, BARRED_WORDS - {"type"}, name)

    def test_calls(self):
        own = set()
        for _, _, tree in modules():
            own |= {node.name for node in ast.walk(tree) if isinstance(node, ast.FunctionDef)}
        for name, _, tree in modules():
            for node in ast.walk(tree):
                if isinstance(node, ast.Name) and node.id in dir(builtins):
                    self.assertIn(node.id, BUILTINS | {"NotImplemented"}, (name, node.lineno))
                if isinstance(node, ast.Call) and isinstance(node.func, ast.Attribute):
                    self.assertIn(node.func.attr, METHODS | own | {"__init__"}, (name, node.lineno))

    def test_what_is_iterated_at_once(self):
        for name, _, tree in modules():
            fine = set()
            for node in ast.walk(tree):
                if isinstance(node, (ast.For, ast.comprehension)):
                    fine.add(node.iter)
                if isinstance(node, ast.Call) and called(node) in TAKERS and node.args:
                    fine.add(node.args[0])
            for node in ast.walk(tree):
                if isinstance(node, ast.Call) and called(node) in ON_THE_SPOT:
                    self.assertIn(node, fine, (name, node.lineno))

    def test_sets_are_not_stored(self):
        for name, _, tree in modules():
            fine = set()
            for node in ast.walk(tree):
                if isinstance(node, ast.Call) and called(node) in ("len", "sorted"):
                    fine.update(node.args)
            for node in ast.walk(tree):
                is_set = isinstance(node, (ast.Set, ast.SetComp))
                if is_set or (isinstance(node, ast.Call) and called(node) == "set"):
                    self.assertIn(node, fine, (name, node.lineno))

    def test_no_name_is_a_method_and_an_attribute(self):
        methods, attributes = set(), set()
        for _, _, tree in modules():
            for node in ast.walk(tree):
                if isinstance(node, ast.ClassDef):
                    names = [part.name for part in node.body if isinstance(part, ast.FunctionDef)]
                    self.assertEqual(len(names), len(set(names)), node.name)
                    methods |= set(names)
                if isinstance(node, ast.Attribute) and isinstance(node.ctx, ast.Store):
                    attributes.add(node.attr)
        self.assertEqual(methods & attributes, set())


def defined(tree):
    """The names that a file defines itself."""
    names = set()
    for node in tree.body:
        if isinstance(node, (ast.FunctionDef, ast.ClassDef)):
            names.add(node.name)
        elif isinstance(node, ast.Assign):
            names.add(node.targets[0].id)
    return names


if __name__ == "__main__":
    unittest.main()
