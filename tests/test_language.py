"""The rules of the Python subset, as far as they can be read off the code, and some narrower than there."""

import ast
import builtins
import os
import re
import unittest

ROOT = os.path.dirname(os.path.dirname(os.path.abspath(__file__)))
PACKAGE = os.path.join(ROOT, "flowkeep")

LIBRARY = {
    "heapq": {"heappush", "heappop", "heapify", "heapreplace", "heappushpop"},
    "math": {"gcd", "lcm", "isqrt", "comb", "perm", "factorial"},
    "itertools": {"product", "combinations", "permutations"},
    "collections": {"deque", "defaultdict"},
}
NODES = (
    "Module FunctionDef ClassDef arguments arg Return Assign AugAssign For While If Raise Expr Break Continue Pass Assert "
    "Delete BoolOp And Or BinOp Add Sub Mult FloorDiv Mod Pow LShift RShift BitOr BitXor BitAnd UnaryOp Not USub Invert "
    "IfExp Dict ListComp DictComp SetComp Set Compare Eq NotEq Lt LtE Gt GtE Is IsNot In NotIn Call Constant Attribute "
    "Subscript Name List Tuple Slice keyword comprehension JoinedStr FormattedValue Starred Lambda ImportFrom alias "
    "Load Store Del"
).split()
BUILTINS = (
    "len range enumerate zip min max sum abs sorted reversed int str bool list tuple dict set isinstance ord repr any all "
    "divmod ValueError"
).split()
METHODS = (
    "append clear copy count endswith extend find get index insert isalnum isalpha isdigit islower isspace isupper items "
    "join keys ljust lower lstrip partition pop remove replace reverse rfind rjust rpartition rsplit rstrip setdefault "
    "split splitlines startswith strip update upper values zfill bit_length add discard"
).split()
SPECIAL = ["__init__", "__eq__", "__len__", "__repr__", "__str__"]
BARRED_ATTRIBUTES = (
    "items keys values pop update append clear extend insert remove reverse setdefault sort args encode decode hex "
    "fromhex format format_map mro register elements open input law"
).split()
BARRED_NAMES = (
    "attrgetter breakpoint builtins compile copyright credits delattr dir eval exec exit gc getattr globals hasattr help "
    "id importlib license locals methodcaller os quit setattr super vars sys register mro elements open input law "
    "version_info with_traceback add_note"
).split()
BARRED_WORDS = (
    r"\b(type|typing|typing_extensions|enum|Enum|IntEnum|StrEnum|Flag|IntFlag|Generic|Protocol|ABC|ABCMeta|namedtuple|"
    r"NamedTuple|TypedDict|TYPE_CHECKING|abstractmethod)\b|dataclass|overload|contextmanager|_wall|_WallAttr"
)
BARRED_STARTS = ("_wall", "_pe_", "_dcw_", "_enum_", "_cm_", "_twin_re_", "_lay_", "_law_", "_stub_", "_sre", "_WallAttr")
BARRED_STEMS = ("_cold", "_tuplegetter", "_outside", "_record", "_written_out", "_member_names")


def files():
    """Return the names of the files of the package, without the folders that Python itself makes."""
    found = []
    for folder, inner, names in os.walk(PACKAGE):
        inner[:] = [name for name in inner if name != "__pycache__"]
        found += [os.path.relpath(os.path.join(folder, name), PACKAGE) for name in names]
    return sorted(found)


def source(name):
    with open(os.path.join(PACKAGE, name), encoding="utf-8", newline="") as file:
        return file.read()


def parsed():
    return {name: ast.parse(source(name)) for name in files()}


def functions(tree):
    return [node for node in ast.walk(tree) if isinstance(node, ast.FunctionDef)]


def module_names(tree):
    """Return the names that a file defines itself, one for each time."""
    found = []
    for node in tree.body:
        if isinstance(node, (ast.FunctionDef, ast.ClassDef)):
            found.append(node.name)
        elif isinstance(node, ast.Assign):
            found += [target.id for target in node.targets]
    return found


def imported(tree):
    return [alias.name for node in tree.body if isinstance(node, ast.ImportFrom) for alias in node.names]


def bound(tree):
    """Return all names that a file binds anywhere, attributes and imports left out."""
    found = [node.id for node in ast.walk(tree) if isinstance(node, ast.Name) and isinstance(node.ctx, ast.Store)]
    found += [node.arg for node in ast.walk(tree) if isinstance(node, ast.arg)]
    return found + [node.name for node in ast.walk(tree) if isinstance(node, (ast.FunctionDef, ast.ClassDef))]


def is_docstring(node):
    return isinstance(node, ast.Expr) and isinstance(node.value, ast.Constant) and isinstance(node.value.value, str)


def docstrings(tree):
    return [node.value for node in ast.walk(tree) if is_docstring(node)]


def is_plain(node):
    """Return whether an expression is written out, or joins such, as a value at module level."""
    if isinstance(node, ast.Constant):
        return True
    if isinstance(node, (ast.Tuple, ast.List)):
        return all(is_plain(item) for item in node.elts)
    if isinstance(node, ast.Dict):
        return all(is_plain(item) for item in node.keys + node.values)
    return isinstance(node, ast.UnaryOp) and isinstance(node.op, ast.USub) and is_plain(node.operand)


class FilesTest(unittest.TestCase):
    def test_names(self):
        for name in files():
            self.assertRegex(name, r"^[a-z_][a-z0-9_]*\.py$", "L1, L14")

    def test_sizes_and_signs(self):
        for name in files():
            text = source(name)
            self.assertEqual([sign for sign in text if not (" " <= sign <= "~" or sign == "\n")], [], "L14 " + name)
            self.assertLessEqual(len(text.split("\n")) - 1, 399, "L10 " + name)
            for at, line in enumerate(text.split("\n")):
                self.assertLessEqual(len(line), 120, f"L10 {name}:{at + 1}")
                self.assertEqual(line, line.rstrip(), f"{name}:{at + 1}")

    def test_functions_are_short(self):
        for name, tree in parsed().items():
            for node in functions(tree):
                self.assertLessEqual(node.end_lineno - node.lineno + 1, 40, f"L10 {name}:{node.lineno}")

    def test_there_are_docstrings(self):
        for name, tree in parsed().items():
            if name != "__init__.py":
                for node in [tree] + tree.body:
                    if isinstance(node, (ast.Module, ast.FunctionDef, ast.ClassDef)):
                        self.assertTrue(ast.get_docstring(node), f"{name}: {getattr(node, 'name', 'the file')}")


class ImportsTest(unittest.TestCase):
    def test_imports(self):
        trees = parsed()
        for name, tree in trees.items():
            inner = [node for node in ast.walk(tree) if isinstance(node, (ast.Import, ast.ImportFrom))]
            ahead = [node for node in tree.body if not is_docstring(node)]
            self.assertEqual(sorted(map(id, inner)), sorted(map(id, ahead[:len(inner)])), "L2 " + name)
            for node in inner:
                where = f"L2 {name}:{node.lineno}"
                self.assertTrue(isinstance(node, ast.ImportFrom) and node.level == 0, where)
                self.assertEqual([alias.asname for alias in node.names if alias.asname], [], where)
                names = {alias.name for alias in node.names}
                if node.module in LIBRARY:
                    self.assertLessEqual(names, LIBRARY[node.module], where)
                else:
                    self.assertRegex(node.module, r"^flowkeep\.[a-z_]+$", where)
                    self.assertLessEqual(names, set(module_names(trees[node.module[9:] + ".py"])), where)

    def test_what_is_imported_is_used(self):
        for name, tree in parsed().items():
            used = {node.id for node in ast.walk(tree) if isinstance(node, ast.Name)}
            for one in imported(tree):
                self.assertIn(one, used, name)

    def test_no_files_import_each_other(self):
        goals = {}
        for name, tree in parsed().items():
            modules = [node.module for node in tree.body if isinstance(node, ast.ImportFrom)]
            goals[name] = [module[9:] + ".py" for module in modules if module.startswith("flowkeep.")]
        done = []
        while len(done) < len(goals):
            ready = [name for name in goals if name not in done and all(goal in done for goal in goals[name])]
            self.assertTrue(ready, "L16 " + str(sorted(set(goals) - set(done))))
            done += ready


class NamesTest(unittest.TestCase):
    def test_each_name_is_bound_once_at_module_level(self):
        for name, tree in parsed().items():
            names = module_names(tree) + imported(tree)
            self.assertEqual(sorted(names), sorted(set(names)), "L15 " + name)

    def test_no_variable_has_the_name_of_a_class_or_an_import(self):
        for name, tree in parsed().items():
            inner = [node for node in ast.walk(tree) if isinstance(node, ast.FunctionDef)]
            barred = imported(tree) + [node.name for node in tree.body if isinstance(node, ast.ClassDef)]
            for node in inner:
                for one in bound(node):
                    self.assertNotIn(one, barred, f"L15 {name}:{node.lineno}")

    def test_names_are_plain_and_free(self):
        for name, tree in parsed().items():
            for one in bound(tree):
                where = f"{name}: {one}"
                if one not in SPECIAL:
                    self.assertRegex(one, r"^_?[A-Za-z][A-Za-z0-9_]*$|^_$", "L12 " + where)
                self.assertFalse(hasattr(builtins, one) and one not in SPECIAL, "L15 " + where)
                self.assertNotIn(one, BARRED_NAMES, "L17 " + where)
                self.assertFalse(one.startswith(BARRED_STARTS), "L12 " + where)
                self.assertNotIn(re.sub(r"[0-9_]*$", "", one), BARRED_STEMS, "L12 " + where)

    def test_builtins(self):
        for name, tree in parsed().items():
            known = set(bound(tree)) | set(imported(tree))
            for node in ast.walk(tree):
                if isinstance(node, ast.Name) and node.id not in known:
                    self.assertIn(node.id, BUILTINS, f"L8 {name}:{node.lineno}")

    def test_attributes_and_methods(self):
        trees = parsed()
        own = {node.name for tree in trees.values() for node in functions(tree)}
        for name, tree in trees.items():
            called = [node.func for node in ast.walk(tree) if isinstance(node, ast.Call)]
            for node in ast.walk(tree):
                if isinstance(node, ast.Attribute):
                    where = f"{name}:{node.lineno}"
                    self.assertFalse(node.attr.startswith("__"), "L5 " + where)
                    if node in called:
                        self.assertTrue(node.attr in METHODS or node.attr in own, "L25 " + where)
                    else:
                        self.assertNotIn(node.attr, BARRED_ATTRIBUTES, "L26 " + where)

    def test_words_that_do_not_occur(self):
        for name, tree in parsed().items():
            plain = "\n".join(line.split("#")[0] for line in ast.unparse(tree).split("\n"))
            for text in docstrings(tree):
                plain = plain.replace(repr(text.value)[1:-1], "")
            self.assertIsNone(re.search(BARRED_WORDS, re.sub(r'"""(.|\n)*?"""', "", plain)), "L17 " + name)


class CodeTest(unittest.TestCase):
    def check_each(self, kind, check, rule):
        for name, tree in parsed().items():
            for node in ast.walk(tree):
                if isinstance(node, kind):
                    self.assertTrue(check(node, tree), f"{rule} {name}:{getattr(node, 'lineno', '?')}")

    def test_statements_and_expressions(self):
        self.check_each(ast.AST, lambda node, tree: type(node).__name__ in NODES, "L6, L7")

    def test_module_level(self):
        for name, tree in parsed().items():
            for at, node in enumerate(tree.body):
                where = f"L3 {name}:{node.lineno}"
                if isinstance(node, ast.Assign):
                    self.assertTrue(len(node.targets) == 1 and isinstance(node.targets[0], ast.Name), where)
                    self.assertTrue(is_plain(node.value), where)
                else:
                    kinds = (ast.ImportFrom, ast.FunctionDef, ast.ClassDef)
                    self.assertTrue(isinstance(node, kinds) or at == 0 and is_docstring(node), where)

    def test_functions_have_plain_parameters(self):
        def check(node, tree):
            told = node.args
            return not (node.decorator_list or node.returns or told.vararg or told.kwarg or told.kwonlyargs)
        self.check_each(ast.FunctionDef, check, "L4")

    def test_constants(self):
        def check(node, tree):
            if node in docstrings(tree):
                return "\\" not in node.value
            if isinstance(node.value, str):
                return "%" not in node.value and "__" not in node.value
            return node.value is None or isinstance(node.value, int)
        self.check_each(ast.Constant, check, "L7, L27")

    def test_exponents_are_literals(self):
        def check(node, tree):
            right = node.right
            return not isinstance(node.op, ast.Pow) or isinstance(right, ast.Constant) and 0 <= right.value <= 64
        self.check_each(ast.BinOp, check, "L27")

    def test_is_stands_beside_none_true_and_false(self):
        def check(node, tree):
            if not any(isinstance(sign, (ast.Is, ast.IsNot)) for sign in node.ops):
                return True
            right = node.comparators[-1]
            return len(node.ops) == 1 and isinstance(right, ast.Constant) and right.value in (None, True, False)
        self.check_each(ast.Compare, check, "L20")

    def test_calls(self):
        allowed = ("key", "reverse", "default", "start")

        def check(node, tree):
            plain = all(not isinstance(one, ast.Starred) for one in node.args)
            return plain and all(one.arg in allowed for one in node.keywords) and not isinstance(node.func, ast.Constant)
        self.check_each(ast.Call, check, "L22")

    def test_raise_creates_its_error(self):
        def check(node, tree):
            made = node.exc
            if not isinstance(made, ast.Call) or not isinstance(made.func, ast.Name) or node.cause:
                return False
            return all(isinstance(one, ast.Constant) for one in made.args) and not made.keywords
        self.check_each(ast.Raise, check, "L19")

    def test_no_loop_goes_over_a_set(self):
        def check(node, tree):
            over = node.iter
            return not isinstance(over, (ast.Set, ast.SetComp)) and not (
                isinstance(over, ast.Call) and isinstance(over.func, ast.Name) and over.func.id == "set")
        self.check_each((ast.For, ast.comprehension), check, "L24")


if __name__ == "__main__":
    unittest.main()
