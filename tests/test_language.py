"""The rules of LANGUAGE.md that can be read off the source: each test names the rules that it looks at."""

import ast
import builtins
import re
import unittest
from pathlib import Path

PACKAGE = Path(__file__).resolve().parent.parent / "stoke"

OWN_NAMES = set(
    "len range enumerate zip min max sum abs sorted reversed int str bool list tuple dict set frozenset isinstance "
    "ord repr any all divmod Exception ValueError TypeError KeyError IndexError LookupError ZeroDivisionError "
    "ArithmeticError OverflowError RuntimeError NotImplementedError AttributeError StopIteration".split()
)
OWN_METHODS = set(
    "append clear copy count endswith extend find get index insert isalnum isalpha isdigit islower isspace isupper "
    "items join keys ljust lower lstrip partition pop remove replace reverse rfind rjust rpartition rsplit rstrip "
    "setdefault split splitlines startswith strip update upper values zfill bit_length".split()
)
DUNDERS = {"__init__", "__eq__", "__repr__", "__str__", "__len__"}
WORDS = set(
    "type typing typing_extensions enum Enum IntEnum StrEnum Flag IntFlag Generic Protocol ABC ABCMeta namedtuple "
    "NamedTuple TypedDict TYPE_CHECKING abstractmethod".split()
)
PARTS_OF_WORDS = ("dataclass", "overload", "contextmanager")
NOT_USED = set(
    "register mro elements open input version_info with_traceback add_note attrgetter breakpoint builtins compile "
    "copyright credits delattr dir eval exec exit gc getattr globals hasattr help id importlib license locals "
    "methodcaller os quit setattr super vars sys format format_map".split()
)
STATEMENTS = (
    ast.Assign, ast.AugAssign, ast.If, ast.While, ast.For, ast.Return, ast.Break, ast.Continue, ast.Pass, ast.Raise,
    ast.Try, ast.ExceptHandler, ast.Expr, ast.FunctionDef,
)
EXPRESSIONS = (
    ast.Constant, ast.List, ast.Tuple, ast.Dict, ast.Set, ast.BinOp, ast.UnaryOp, ast.BoolOp, ast.Compare, ast.IfExp,
    ast.Call, ast.Attribute, ast.Subscript, ast.Slice, ast.ListComp, ast.JoinedStr, ast.FormattedValue, ast.Name,
    ast.Lambda,
)
LEFT_OUT = (ast.Div, ast.MatMult)


def sources():
    return sorted(PACKAGE.rglob("*.py"))


def tree_of(path):
    return ast.parse(path.read_text(encoding="utf-8"))


def nodes(*kinds):
    for path in sources():
        for node in ast.walk(tree_of(path)):
            if isinstance(node, kinds):
                yield path.name, node


def functions():
    return nodes(ast.FunctionDef)


def bound_at_top(tree):
    names = []
    for node in tree.body:
        if isinstance(node, (ast.FunctionDef, ast.ClassDef)):
            names.append(node.name)
        elif isinstance(node, ast.ImportFrom):
            names.extend(alias.asname or alias.name for alias in node.names)
        elif isinstance(node, ast.Assign):
            names.extend(target.id for target in node.targets)
    return names


def bound_within(tree):
    names = [node.arg for node in ast.walk(tree) if isinstance(node, ast.arg)]
    for node in ast.walk(tree):
        if isinstance(node, ast.Name) and isinstance(node.ctx, ast.Store):
            names.append(node.id)
        if isinstance(node, ast.ExceptHandler) and node.name:
            names.append(node.name)
    return names


def is_docstring(node):
    return isinstance(node, ast.Expr) and isinstance(node.value, ast.Constant) and isinstance(node.value.value, str)


def plain_value(node):
    if isinstance(node, ast.UnaryOp):
        return isinstance(node.op, ast.USub) and plain_value(node.operand)
    if isinstance(node, (ast.List, ast.Tuple)):
        return all(plain_value(each) for each in node.elts)
    if isinstance(node, ast.Dict):
        return all(plain_value(each) for each in node.keys + node.values)
    return isinstance(node, (ast.Constant, ast.Name))


def methods_and_values():
    methods = set()
    values = set()
    for _, node in nodes(ast.ClassDef):
        methods.update(each.name for each in node.body if isinstance(each, ast.FunctionDef))
    for _, node in nodes(ast.Attribute):
        if isinstance(node.ctx, ast.Store):
            values.add(node.attr)
    return methods, values


class FilesTest(unittest.TestCase):
    def test_l1_l14_files(self):
        self.assertTrue((PACKAGE / "__init__.py").is_file())
        for path in PACKAGE.rglob("*"):
            if "__pycache__" not in path.parts:
                self.assertTrue(path.is_file() and re.fullmatch(r"[a-z0-9_]+\.py", path.name), path)
                self.assertNotIn(path.stem, set(dir(builtins)) | WORDS)
                self.assertFalse(path.stem.startswith("test"), path)

    def test_l10_l14_signs_and_sizes(self):
        for path in sources():
            text = path.read_text(encoding="utf-8")
            self.assertRegex(text, r"\A[ -~\n]*\Z", path)
            lines = text.split("\n")
            self.assertLessEqual(len(lines) - 1, 400, path)
            self.assertLessEqual(max(len(line) for line in lines), 120, path)
        for name, node in functions():
            self.assertLessEqual(node.end_lineno - node.lineno + 1, 40, (name, node.name))

    def test_l17_words(self):
        for path in sources():
            text = path.read_text(encoding="utf-8")
            self.assertEqual(set(re.findall(r"\w+", text)) & WORDS, set(), path)
            for part in PARTS_OF_WORDS:
                self.assertNotIn(part, text, path)


class ImportsTest(unittest.TestCase):
    def test_l2_l16_own_modules_alone(self):
        for name, node in nodes(ast.Import, ast.ImportFrom):
            self.assertIsInstance(node, ast.ImportFrom, (name, node.lineno))
            self.assertEqual(node.level, 0, name)
            folder, _, module = node.module.partition(".")
            self.assertEqual(folder, PACKAGE.name, (name, node.module))
            defined = [
                each for each in tree_of(PACKAGE / f"{module}.py").body if not isinstance(each, ast.ImportFrom)
            ]
            for alias in node.names:
                self.assertIn(alias.name, bound_at_top(ast.Module(defined, [])), (name, node.module))

    def test_l16_no_rounds(self):
        drawn = {path.stem: [] for path in sources()}
        for name, node in nodes(ast.ImportFrom):
            drawn[name[:-3]].append(node.module.partition(".")[2])
        done = []
        while len(done) < len(drawn):
            ready = [stem for stem in drawn if stem not in done and set(drawn[stem]) <= set(done)]
            self.assertNotEqual(ready, [], "files draw from one another")
            done.extend(ready)

    def test_l16_init_binds_no_name_of_its_files(self):
        stems = {path.stem for path in sources()}
        self.assertEqual(stems & set(bound_at_top(tree_of(PACKAGE / "__init__.py"))), set())


class FormTest(unittest.TestCase):
    def test_l3_l15_tops(self):
        for path in sources():
            tree = tree_of(path)
            for place, node in enumerate(tree.body):
                if place == 0 and is_docstring(node):
                    continue
                self.assertIsInstance(node, (ast.ImportFrom, ast.FunctionDef, ast.ClassDef, ast.Assign), path)
                if isinstance(node, ast.Assign):
                    self.assertTrue(plain_value(node.value), (path, node.lineno))
            names = bound_at_top(tree)
            self.assertEqual(len(names), len(set(names)), path)

    def test_l4_l21_functions(self):
        for name, node in functions():
            args = node.args
            self.assertEqual(node.decorator_list, [], name)
            self.assertEqual((args.vararg, args.kwarg, args.kwonlyargs, args.posonlyargs), (None, None, [], []), name)
            self.assertEqual([each.annotation for each in args.args if each.annotation], [], name)
            self.assertIsNone(node.returns, name)
            self.assertTrue(all(plain_value(each) for each in args.defaults), name)

    def test_l5_l18_classes(self):
        for name, node in nodes(ast.ClassDef):
            self.assertEqual((node.decorator_list, node.keywords), ([], []), name)
            self.assertLessEqual(len(node.bases), 1, name)
            for each in node.body:
                self.assertIsInstance(each, (ast.FunctionDef, ast.Pass), (name, each.lineno))
            names = [each.name for each in node.body if isinstance(each, ast.FunctionDef)]
            self.assertEqual(len(names), len(set(names)), name)
        methods, values = methods_and_values()
        self.assertEqual(methods & values, set())

    def test_l6_statements(self):
        for name, node in functions():
            for each in ast.walk(node):
                if isinstance(each, ast.stmt):
                    self.assertIsInstance(each, STATEMENTS, (name, each.lineno))
                if isinstance(each, ast.Assign):
                    self.assertEqual(len(each.targets), 1, (name, each.lineno))
                if isinstance(each, ast.Expr):
                    self.assertIsInstance(each.value, ast.Call, (name, each.lineno))
                if isinstance(each, (ast.For, ast.While)):
                    self.assertEqual(each.orelse, [], (name, each.lineno))
                if isinstance(each, ast.Try):
                    self.assertEqual(each.finalbody, [], (name, each.lineno))

    def test_l7_l20_l27_expressions(self):
        for name, node in nodes(ast.expr, ast.operator):
            self.assertNotIsInstance(node, LEFT_OUT, name)
            if isinstance(node, ast.expr):
                self.assertIsInstance(node, EXPRESSIONS, (name, node.lineno))
            if isinstance(node, ast.Constant):
                self.assertIn(type(node.value), (int, str, bool, type(None)), (name, node.lineno))
                self.assertNotIn("%", str(node.value), (name, node.lineno))
            if isinstance(node, ast.Compare) and any(isinstance(op, (ast.Is, ast.IsNot)) for op in node.ops):
                self.assertIsInstance(node.comparators[0], ast.Constant, (name, node.lineno))
            if isinstance(node, ast.BinOp) and isinstance(node.op, ast.Pow):
                self.assertIsInstance(node.right, ast.Constant, (name, node.lineno))
            if isinstance(node, ast.ListComp):
                self.assertEqual(len(node.generators), 1, (name, node.lineno))
                self.assertLessEqual(len(node.generators[0].ifs), 1, (name, node.lineno))


class WalkedTest(unittest.TestCase):
    WALKED = ("zip", "enumerate", "reversed", "range")
    METHODS = ("items", "keys", "values")
    WALKERS = ("list", "tuple", "dict", "sorted", "sum", "any", "all", "enumerate", "zip", "min", "max")

    def is_walked(self, node):
        if not isinstance(node, ast.Call):
            return False
        if isinstance(node.func, ast.Attribute):
            return node.func.attr in self.METHODS
        return isinstance(node.func, ast.Name) and node.func.id in self.WALKED

    def test_l23_walked_at_once(self):
        for path in sources():
            tree = tree_of(path)
            walked = [node.iter for node in ast.walk(tree) if isinstance(node, (ast.For, ast.comprehension))]
            for node in ast.walk(tree):
                if isinstance(node, ast.Call) and isinstance(node.func, ast.Name) and node.func.id in self.WALKERS:
                    walked.extend(node.args[:1])
            for node in ast.walk(tree):
                if self.is_walked(node):
                    self.assertIn(node, walked, (path, node.lineno))

    def test_l13_l22_l24(self):
        keywords = {"sorted": {"key", "reverse"}, "min": {"key", "default"}, "max": {"key", "default"}}
        keywords.update({"sum": {"start"}, "enumerate": {"start"}, "zip": {"strict"}})
        lambdas = []
        for name, node in nodes(ast.Call, ast.Set, ast.Lambda):
            self.assertNotIsInstance(node, ast.Set, (name, node.lineno))
            if isinstance(node, ast.Lambda):
                lambdas.append((name, node.lineno))
            elif isinstance(node.func, ast.Attribute) and node.func.attr in OWN_METHODS:
                self.assertEqual(node.keywords, [], (name, node.lineno))
            elif isinstance(node.func, ast.Name) and node.func.id in OWN_NAMES:
                self.assertNotIn(node.func.id, ("set", "frozenset"), (name, node.lineno))
                found = {keyword.arg for keyword in node.keywords}
                self.assertLessEqual(found, keywords.get(node.func.id, set()), (name, node.lineno))
        self.assertEqual(len(lambdas), len(set(lambdas)))


class NamesTest(unittest.TestCase):
    def test_l8_python_names(self):
        for path in sources():
            tree = tree_of(path)
            known = OWN_NAMES | set(bound_at_top(tree)) | set(bound_within(tree))
            for node in ast.walk(tree):
                if isinstance(node, ast.Name):
                    self.assertIn(node.id, known, (path, node.lineno))

    def test_l12_l17_plain_names(self):
        for path in sources():
            tree = tree_of(path)
            methods = [node.name for node in ast.walk(tree) if isinstance(node, ast.FunctionDef)]
            values = [node.attr for node in ast.walk(tree) if isinstance(node, ast.Attribute)]
            for each in bound_at_top(tree) + bound_within(tree) + methods + values:
                self.assertTrue(re.fullmatch(r"[A-Za-z]\w*", each) or each in DUNDERS, (path, each))
                self.assertNotIn(each, NOT_USED, path)

    def test_l15_no_name_twice(self):
        for path in sources():
            tree = tree_of(path)
            tops = [node for node in tree.body if isinstance(node, (ast.ClassDef, ast.ImportFrom))]
            taken = set(bound_at_top(ast.Module(tops, []))) | set(dir(builtins))
            for node in ast.walk(tree):
                if isinstance(node, ast.FunctionDef):
                    self.assertEqual(taken & set(bound_within(node)), set(), (path, node.name))

    def test_l25_l26_methods_and_values(self):
        methods, values = methods_and_values()
        for name, node in nodes(ast.Attribute):
            self.assertIn(node.attr, OWN_METHODS | DUNDERS | methods | values, (name, node.lineno))
        taken = set()
        for kind in (str, int, list, dict, set, bytes, tuple):
            taken.update(dir(kind))
        free = "count index title find get join lower upper split strip copy add".split()
        self.assertEqual((values & taken) - set(free), set())
        self.assertEqual((methods & taken) - OWN_METHODS - DUNDERS - {"add", "discard"}, set())


if __name__ == "__main__":
    unittest.main()
