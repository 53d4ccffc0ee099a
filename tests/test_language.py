"""The files of the package keep to the small part of Python in which the program is written."""

import ast
import builtins
import pathlib
import re
import unittest

PACKAGE = pathlib.Path(__file__).resolve().parent.parent / "withinrim"
LIBRARY = {"math": {"gcd", "lcm", "isqrt", "comb", "perm", "factorial"},
           "itertools": {"product", "combinations", "permutations", "chain", "accumulate", "pairwise", "islice"}}
BUILTINS = set("""len range enumerate zip min max sum abs sorted reversed int str bool list tuple dict set isinstance
    ord repr any all divmod Exception ValueError TypeError KeyError IndexError LookupError ZeroDivisionError
    RuntimeError NotImplementedError""".split())
METHODS = set("""append clear copy count endswith extend find get index insert isalnum isalpha isdigit islower isspace
    isupper items join keys ljust lower lstrip partition pop remove replace reverse rfind rjust rpartition rsplit
    rstrip setdefault split splitlines startswith strip update upper values zfill bit_length add discard
    removeprefix removesuffix isascii""".split())
ATONCE = {"zip", "enumerate", "reversed", "range"}
PRODUCTS = {"product", "combinations", "permutations"}
TAKERS = {"list", "tuple", "dict", "sorted", "sum", "min", "max", "any", "all", "enumerate", "zip", "reversed", "len"}
BARRED = set("""register mro elements open input law version_info with_traceback add_note attrgetter breakpoint builtins
    compile copyright credits delattr dir eval exec exit gc getattr globals hasattr help id importlib license locals
    methodcaller os quit setattr super type vars sys""".split())
WORDS = re.compile(r"\b(type|typing|typing_extensions|enum|Enum|IntEnum|StrEnum|Flag|IntFlag|Generic|Protocol|ABC|"
                   r"ABCMeta|namedtuple|NamedTuple|TypedDict|TYPE_CHECKING|abstractmethod)\b|dataclass|overload|"
                   r"contextmanager")
PREFIXES = ("_wall", "_pe_", "_dcw_", "_enum_", "_cm_", "_twin_re_", "_lay_", "_law_", "_stub_", "_sre", "__")
STATEMENTS = (ast.Expr, ast.Assign, ast.AugAssign, ast.If, ast.While, ast.For, ast.Return, ast.Break, ast.Continue,
              ast.Pass, ast.Raise, ast.FunctionDef, ast.Delete, ast.Try, ast.Assert)
FILES = sorted(PACKAGE.glob("*.py"))


def parsed(path):
    tree = ast.parse(path.read_text(encoding="ascii"))
    for node in ast.walk(tree):
        for child in ast.iter_child_nodes(node):
            child.above = node
    return tree


def functions(tree):
    return [node for node in ast.walk(tree) if isinstance(node, ast.FunctionDef)]


def parameters(function):
    return [each.arg for each in function.args.args]


def bound_at_top(tree):
    names = []
    for node in tree.body:
        if isinstance(node, ast.ImportFrom):
            names.extend(alias.asname or alias.name for alias in node.names)
        elif isinstance(node, (ast.FunctionDef, ast.ClassDef)):
            names.append(node.name)
        elif isinstance(node, ast.Assign):
            names.extend(target.id for target in node.targets)
    return names


def methods(tree):
    return [node for each in tree.body if isinstance(each, ast.ClassDef) for node in each.body
            if isinstance(node, ast.FunctionDef)]


def plain(node, made=()):
    """Whether it is a plain value, or a dict or a tuple of such and of functions of the file that are made above."""
    if isinstance(node, ast.Name):
        return node.id in made
    if isinstance(node, ast.Dict):
        return all(plain(each) for each in node.keys) and all(plain(each, made) for each in node.values)
    if isinstance(node, ast.Tuple):
        return all(plain(each, made) for each in node.elts)
    try:
        ast.literal_eval(node)
    except ValueError:
        return False
    return True


class LanguageTest(unittest.TestCase):
    def setUp(self):
        self.trees = {path.stem: parsed(path) for path in FILES}

    def each_node(self, *kinds):
        for name, tree in self.trees.items():
            for node in ast.walk(tree):
                if isinstance(node, kinds):
                    yield f"{name}:{getattr(node, 'lineno', 0)}", node

    def test_files(self):
        self.assertIn("__init__", self.trees)
        for path in PACKAGE.iterdir():
            if path.name != "__pycache__":
                self.assertRegex(path.name, r"^[a-z0-9_]+\.py$")
                self.assertFalse(path.stem in dir(builtins) or path.stem in BARRED, path.name)
        for path in FILES:
            text = path.read_text(encoding="ascii")
            self.assertRegex(text, r"\A[ -~\n]*\Z", path.name)
            self.assertLess(len(text.split("\n")), 400, path.name)
            self.assertLessEqual(max(len(line) for line in text.split("\n")), 120, path.name)

    def test_functions_are_short(self):
        for where, node in self.each_node(ast.FunctionDef):
            self.assertLessEqual(node.end_lineno - node.lineno + 1, 40, where)
            self.assertEqual(node.decorator_list, [], where)
            self.assertTrue(all(plain(each) for each in node.args.defaults), where)
            self.assertIsNotNone(ast.get_docstring(node) or isinstance(node.above, ast.ClassDef) or None, where)

    def test_module_level(self):
        for name, tree in self.trees.items():
            self.assertIsNotNone(ast.get_docstring(tree), name)
            made = []
            for node in tree.body[1:]:
                fine = isinstance(node, (ast.ImportFrom, ast.FunctionDef, ast.ClassDef)) or (
                    isinstance(node, ast.Assign) and len(node.targets) == 1 and plain(node.value, made))
                self.assertTrue(fine, f"{name}:{node.lineno}")
                if isinstance(node, ast.FunctionDef):
                    made.append(node.name)
            names = bound_at_top(tree)
            self.assertEqual(len(names), len(set(names)), name)

    def test_imports(self):
        reached = {}
        for name, tree in self.trees.items():
            reached[name] = set()
            for node in ast.walk(tree):
                self.assertNotIsInstance(node, ast.Import, name)
                if not isinstance(node, ast.ImportFrom):
                    continue
                for alias in node.names:
                    self.assertIsNone(alias.asname, name)
                    if node.module in LIBRARY:
                        self.assertIn(alias.name, LIBRARY[node.module], name)
                    else:
                        package, module = node.module.split(".")
                        self.assertEqual((package, node.level), ("withinrim", 0), name)
                        own = [each.name for each in self.trees[module].body if hasattr(each, "name")]
                        own += [each.targets[0].id for each in self.trees[module].body if isinstance(each, ast.Assign)]
                        self.assertIn(alias.name, own, f"{name} takes {alias.name} from {module}")
                        reached[name].add(module)
                    used = sum(isinstance(each, ast.Name) and each.id == alias.name for each in ast.walk(tree))
                    self.assertGreater(used, 0, f"{name} does not use {alias.name}")
        for _ in reached:
            for name in reached:
                reached[name] |= {far for near in reached[name] for far in reached[near]}
        self.assertEqual([name for name in reached if name in reached[name]], [])
        self.assertEqual(reached["__init__"], set())

    def test_names(self):
        for name, tree in self.trees.items():
            taken = set()
            for node in tree.body:
                if isinstance(node, ast.ImportFrom):
                    taken |= {alias.name for alias in node.names}
                elif isinstance(node, ast.ClassDef):
                    taken.add(node.name)
            for node in ast.walk(tree):
                stored = node.id if isinstance(node, ast.Name) and isinstance(node.ctx, ast.Store) else (
                    node.arg if isinstance(node, ast.arg) else node.name if isinstance(node, ast.FunctionDef) else None)
                if stored is None or stored == "__init__":
                    continue
                where = f"{name}:{node.lineno} {stored}"
                self.assertFalse(stored in dir(builtins) or stored in BARRED or stored in taken, where)
                self.assertFalse(stored.startswith(PREFIXES), where)
            read = [node for node in ast.walk(tree) if isinstance(node, ast.Name) and isinstance(node.ctx, ast.Load)]
            for node in read:
                self.assertNotEqual(node.id, "_", f"{name}:{node.lineno}")
                if node.id in dir(builtins):
                    self.assertIn(node.id, BUILTINS, f"{name}:{node.lineno}")

    def test_statements(self):
        for name, tree in self.trees.items():
            for function in functions(tree):
                for node in ast.walk(function):
                    if isinstance(node, ast.stmt):
                        self.assertIsInstance(node, STATEMENTS, f"{name}:{node.lineno}")
                    if isinstance(node, ast.Expr):
                        self.assertIsInstance(node.value, (ast.Call, ast.Constant), f"{name}:{node.lineno}")
        for where, node in self.each_node(ast.Raise):
            self.assertIsInstance(node.exc, ast.Call, where)
            self.assertIsInstance(node.exc.func, ast.Name, where)
        for where, node in self.each_node(ast.Yield, ast.YieldFrom, ast.Lambda, ast.NamedExpr, ast.AnnAssign, ast.Set,
                                          ast.SetComp, ast.Await, ast.JoinedStr):
            self.fail(f"{where}: {type(node).__name__} is not used so far; look up its rules")

    def test_values(self):
        for where, node in self.each_node(ast.Constant):
            self.assertNotIsInstance(node.value, (float, complex, bytes), where)
            docstring = isinstance(node.above, ast.Expr)
            if isinstance(node.value, str):
                self.assertNotIn("%", node.value, where)
                self.assertTrue(docstring or not WORDS.search(node.value), where)
        for where, node in self.each_node(ast.BinOp, ast.AugAssign):
            self.assertNotIsInstance(node.op, (ast.Div, ast.MatMult), where)
            if isinstance(node.op, ast.Pow):
                self.assertIsInstance(node.right, ast.Constant, where)
        for where, node in self.each_node(ast.Compare):
            for sign, side in zip(node.ops, node.comparators):
                if isinstance(sign, (ast.Is, ast.IsNot)):
                    self.assertTrue(isinstance(side, ast.Constant) and side.value in (None, True, False), where)
        for where, node in self.each_node(ast.Starred):
            self.assertNotIsInstance(node.above, ast.Set, where)

    def test_iterated_at_once(self):
        for where, node in self.each_node(ast.GeneratorExp):
            call = node.above
            self.assertTrue(isinstance(call, ast.Call) and isinstance(call.func, ast.Name), where)
            self.assertIn(call.func.id, TAKERS - {"enumerate", "zip", "reversed", "len"}, where)
            self.assertEqual(len(call.args), 1, where)
        for where, node in self.each_node(ast.Call):
            if isinstance(node.func, ast.Name) and node.func.id in PRODUCTS:
                self.assertTrue(isinstance(node.above, ast.For) and node.above.iter is node, where)
            if not (isinstance(node.func, ast.Name) and node.func.id in ATONCE):
                continue
            above = node.above
            fine = (isinstance(above, (ast.For, ast.comprehension)) and above.iter is node) or (
                isinstance(above, ast.Call) and isinstance(above.func, ast.Name) and above.func.id in TAKERS) or (
                isinstance(above, ast.Compare) and node.func.id == "range") or (
                isinstance(above, ast.Call) and node.func.id == "range" and above.func.id in PRODUCTS)
            self.assertTrue(fine, where)

    def test_calls(self):
        made = {}
        for tree in self.trees.values():
            for node in tree.body:
                if isinstance(node, ast.FunctionDef):
                    made[node.name] = (len(node.args.args) - len(node.args.defaults), len(node.args.args))
        own = {node.name: len(node.args.args) - 1 for tree in self.trees.values() for node in methods(tree)}
        self.assertEqual([name for name in own if name in METHODS], [])
        for where, node in self.each_node(ast.Call):
            if isinstance(node.func, ast.Attribute):
                self.assertEqual(node.keywords, [], where)
                if node.func.attr in own:
                    self.assertEqual(len(node.args), own[node.func.attr], where)
                else:
                    self.assertIn(node.func.attr, METHODS, where)
                continue
            self.assertIsInstance(node.func, ast.Name, where)
            if node.func.id in made and not any(isinstance(each, ast.Starred) for each in node.args):
                least, most = made[node.func.id]
                self.assertTrue(least <= len(node.args) + len(node.keywords) <= most, where)
            if node.func.id in BUILTINS:
                for keyword in node.keywords:
                    self.assertIn((node.func.id, keyword.arg), (("sorted", "key"), ("sorted", "reverse"),
                                  ("min", "default"), ("max", "default"), ("min", "key"), ("max", "key")), where)

    def test_loops_leave_what_they_go_over(self):
        for where, node in self.each_node(ast.For):
            gone_over = {each.id for each in ast.walk(node.iter) if isinstance(each, ast.Name)}
            if isinstance(node.iter, ast.Call) and getattr(node.iter.func, "id", "") in ("range", "reversed"):
                inner = node.iter.args[0]
                if node.iter.func.id == "range" or isinstance(inner, ast.Call):
                    gone_over = set()
            for each in [part for row in node.body for part in ast.walk(row)]:
                changed = None
                if isinstance(each, ast.Subscript) and isinstance(each.ctx, ast.Store):
                    changed = each.value
                elif isinstance(each, ast.Call) and isinstance(each.func, ast.Attribute) and each.func.attr in (
                        "append", "pop", "extend", "insert", "remove", "clear", "reverse"):
                    changed = each.func.value
                if isinstance(changed, ast.Name):
                    self.assertNotIn(changed.id, gone_over, where)

    def test_classes(self):
        for where, node in self.each_node(ast.ClassDef):
            self.assertEqual(len(node.bases), 1 if where.startswith("errors:") else 0, where)
            self.assertEqual(node.decorator_list + node.keywords, [], where)
            names = [each.name for each in node.body if isinstance(each, ast.FunctionDef)]
            self.assertEqual(len(names), len(set(names)), where)
            self.assertTrue(all(name == "__init__" or not name.startswith("__") for name in names), where)
            for each in node.body[1:]:
                self.assertIsInstance(each, ast.FunctionDef, where)
                self.assertEqual(each.args.args[0].arg, "self", where)
            for each in ast.walk(node):
                if isinstance(each, ast.Attribute) and isinstance(each.ctx, ast.Store):
                    self.assertNotIn(each.attr, names, where)
                    self.assertIsInstance(each.value, ast.Name, where)

    def test_attributes_are_assigned_somewhere(self):
        assigned = {node.attr for _, node in self.each_node(ast.Attribute) if isinstance(node.ctx, ast.Store)}
        self.assertEqual(assigned & METHODS - {"index"}, set())
        for where, node in self.each_node(ast.Attribute):
            if isinstance(node.ctx, ast.Load) and not isinstance(node.above, ast.Call):
                self.assertIn(node.attr, assigned, where)

    def test_caught_errors_are_own(self):
        own = {node.name for node in self.trees["errors"].body if isinstance(node, ast.ClassDef)}
        for where, node in self.each_node(ast.ExceptHandler):
            self.assertIsInstance(node.type, ast.Name, where)
            self.assertIn(node.type.id, own, where)
            self.assertIsNone(node.name, where)


if __name__ == "__main__":
    unittest.main()
