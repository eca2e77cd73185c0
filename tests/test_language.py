"""Whether the package's files keep to the part of Python that they are to keep to."""

import ast
import builtins
import pathlib
import re
import unittest

PACKAGE = pathlib.Path(__file__).resolve().parent.parent / "foldlog"

STATEMENTS = (
    ast.FunctionDef, ast.ClassDef, ast.Return, ast.Assign, ast.AugAssign, ast.For, ast.While, ast.If, ast.Raise, ast.Try,
    ast.ImportFrom, ast.Expr, ast.Pass, ast.Break, ast.Continue,
)
EXPRESSIONS = (
    ast.BoolOp, ast.BinOp, ast.UnaryOp, ast.Lambda, ast.IfExp, ast.Dict, ast.ListComp, ast.Compare, ast.Call,
    ast.FormattedValue, ast.JoinedStr, ast.Constant, ast.Attribute, ast.Subscript, ast.Name, ast.List, ast.Tuple, ast.Slice,
    ast.Set,
)
OWN_NAMES = """len range enumerate zip min max sum abs sorted reversed int str bool list tuple dict set frozenset isinstance ord repr
any all divmod Exception ValueError TypeError KeyError IndexError LookupError ZeroDivisionError ArithmeticError OverflowError
RuntimeError NotImplementedError AttributeError StopIteration""".split()
METHODS = """append clear copy count endswith extend find get index insert isalnum isalpha isdigit islower isspace isupper items join
keys ljust lower lstrip partition pop remove replace reverse rfind rjust rpartition rsplit rstrip setdefault split splitlines
startswith strip update upper values zfill bit_length __init__""".split()
WALKED = ["zip", "enumerate", "reversed", "range", "items", "keys", "values"]
WALKERS = ["list", "tuple", "dict", "sorted", "sum", "any", "all", "enumerate", "zip", "min", "max", "join"]
UNUSED_NAMES = """register mro elements open input version_info with_traceback add_note attrgetter breakpoint builtins compile
copyright credits delattr dir eval exec exit gc getattr globals hasattr help id importlib license locals methodcaller os quit
setattr super vars format format_map""".split()
UNUSED_WORDS = """type typing typing_extensions enum Enum IntEnum StrEnum Flag IntFlag Generic Protocol ABC ABCMeta namedtuple
NamedTuple TypedDict TYPE_CHECKING abstractmethod""".split()
UNUSED_PARTS = ["dataclass", "overload", "contextmanager"]
TWO_UNDERSCORES = ["__init__", "__eq__", "__repr__", "__str__", "__len__"]


def sources():
    return {path: path.read_text(encoding="utf-8") for path in sorted(PACKAGE.glob("*.py"))}


def trees():
    return {path.name: ast.parse(text) for path, text in sources().items()}


def parents(tree):
    return {child: node for node in ast.walk(tree) for child in ast.iter_child_nodes(node)}


def nodes(kind):
    return [(name, node) for name, tree in trees().items() for node in ast.walk(tree) if isinstance(node, kind)]


def bound_names(tree):
    names = [node.id for node in ast.walk(tree) if isinstance(node, ast.Name) and not isinstance(node.ctx, ast.Load)]
    return names + [node.arg for node in ast.walk(tree) if isinstance(node, ast.arg)]


def imported(tree):
    return [alias.name for node in tree.body if isinstance(node, ast.ImportFrom) for alias in node.names]


class Files(unittest.TestCase):
    def test_files_alone(self):
        found = [path.name for path in PACKAGE.iterdir() if path.name != "__pycache__"]
        self.assertIn("__init__.py", found)
        for name in found:
            self.assertRegex(name, r"^(__init__|__main__|[a-z][a-z0-9_]*)\.py$")
            self.assertNotIn(name[:-3], dir(builtins) + UNUSED_WORDS)

    def test_size_and_signs(self):
        for path, text in sources().items():
            self.assertRegex(text, r"\A[ -~\n]*\Z", path)
            self.assertLessEqual(len(text.splitlines()), 400, path)
            self.assertLessEqual(max(map(len, text.splitlines())), 120, path)
        for name, node in nodes(ast.FunctionDef):
            self.assertLessEqual(node.end_lineno - node.lineno + 1, 40, (name, node.name))

    def test_words_that_stand_nowhere(self):
        for path, text in sources().items():
            for word in UNUSED_WORDS:
                self.assertIsNone(re.search(r"\b%s\b" % word, text), (path, word))
            for part in UNUSED_PARTS:
                self.assertNotIn(part, text)


class Tops(unittest.TestCase):
    def test_what_stands_at_the_top(self):
        for name, tree in trees().items():
            for place, node in enumerate(tree.body):
                if place == 0 and isinstance(node, ast.Expr):
                    self.assertIsInstance(node.value.value, str)
                else:
                    self.assertIsInstance(node, (ast.ImportFrom, ast.FunctionDef, ast.ClassDef, ast.Assign), (name, node.lineno))

    def test_each_name_once(self):
        for name, tree in trees().items():
            names = [node.name for node in tree.body if isinstance(node, (ast.FunctionDef, ast.ClassDef))]
            names += [target.id for node in tree.body if isinstance(node, ast.Assign) for target in node.targets]
            names += imported(tree)
            self.assertEqual(len(names), len(set(names)), name)

    def test_imports(self):
        drawn = {}
        for name, tree in trees().items():
            drawn[name] = []
            for node in [node for node in ast.walk(tree) if isinstance(node, ast.ImportFrom)]:
                self.assertIn(node, tree.body)
                self.assertEqual(node.level, 0)
                self.assertRegex(node.module, r"^foldlog\.[a-z0-9_]+$")
                source = node.module.partition(".")[2] + ".py"
                drawn[name].append(source)
                for alias in node.names:
                    self.assertIsNone(alias.asname)
                    defined = [one.name for one in trees()[source].body if isinstance(one, (ast.FunctionDef, ast.ClassDef))]
                    defined += [one.targets[0].id for one in trees()[source].body if isinstance(one, ast.Assign)]
                    self.assertIn(alias.name, defined, name)
                    used = [one.id for one in ast.walk(tree) if isinstance(one, ast.Name)]
                    self.assertIn(alias.name, used, name)
        self.check_no_circle(drawn)
        self.assertEqual(drawn["__init__.py"], [])

    def check_no_circle(self, drawn):
        left = dict(drawn)
        while left:
            free = [name for name in left if not [source for source in left[name] if source in left]]
            self.assertTrue(free, left)
            for name in free:
                left.pop(name)


class Words(unittest.TestCase):
    def test_kinds_of_nodes(self):
        for name, tree in trees().items():
            above = parents(tree)
            for node in ast.walk(tree):
                if isinstance(node, ast.stmt):
                    self.assertIsInstance(node, STATEMENTS, (name, node.lineno))
                if isinstance(node, ast.expr):
                    self.assertIsInstance(node, EXPRESSIONS, (name, node.lineno))
                if isinstance(node, ast.Expr) and not isinstance(above[node], ast.Module):
                    self.assertIsInstance(node.value, ast.Call, (name, node.lineno))
                if isinstance(node, (ast.For, ast.While)):
                    self.assertEqual(node.orelse, [], (name, node.lineno))
                if isinstance(node, ast.Assign):
                    self.assertEqual(len(node.targets), 1, (name, node.lineno))
                if isinstance(node, ast.Try):
                    self.assertEqual(node.finalbody, [], (name, node.lineno))

    def test_values(self):
        for name, node in nodes(ast.Constant):
            self.assertTrue(node.value is None or isinstance(node.value, (bool, int, str)), (name, node.lineno))
            if isinstance(node.value, str):
                self.assertNotIn("%", node.value, (name, node.lineno))
        for name, node in nodes(ast.Div):
            self.fail((name, "division"))
        for name, node in nodes(ast.BinOp):
            if isinstance(node.op, ast.Pow):
                self.assertIn(node.right.value, range(65), (name, node.lineno))
        for name, node in nodes(ast.FormattedValue):
            self.assertIsInstance(node.value, ast.Name, (name, node.lineno))
            self.assertIsNone(node.format_spec, (name, node.lineno))
        for name, node in nodes(ast.comprehension):
            self.assertLessEqual(len(node.ifs), 1, name)
        for name, node in nodes(ast.ListComp):
            self.assertEqual(len(node.generators), 1, (name, node.lineno))

    def test_is_beside_none_and_truths(self):
        for name, node in nodes(ast.Compare):
            if [one for one in node.ops if isinstance(one, (ast.Is, ast.IsNot))]:
                beside = [node.left] + node.comparators
                self.assertTrue([one for one in beside if isinstance(one, ast.Constant)
                                 and (one.value is None or isinstance(one.value, bool))], (name, node.lineno))

    def test_names(self):
        for name, tree in trees().items():
            for bound in bound_names(tree):
                self.assertRegex(bound, r"^[A-Za-z][A-Za-z0-9_]*$", name)
                self.assertNotIn(bound, dir(builtins) + UNUSED_NAMES + imported(tree), name)
                self.assertNotIn(bound, [node.name for node in tree.body if isinstance(node, ast.ClassDef)], name)
            for node in [node for node in ast.walk(tree) if isinstance(node, ast.Name)]:
                self.assertNotIn(node.id, UNUSED_NAMES, (name, node.lineno))
                if node.id in dir(builtins):
                    self.assertIn(node.id, OWN_NAMES, (name, node.lineno))

    def test_functions(self):
        for name, node in nodes((ast.FunctionDef, ast.Lambda)):
            taken = node.args
            self.assertEqual((taken.vararg, taken.kwarg, taken.kwonlyargs, taken.posonlyargs), (None, None, [], []), name)
        for name, node in nodes(ast.FunctionDef):
            self.assertEqual(node.decorator_list, [], name)
            if node.name.startswith("_"):
                self.assertIn(node.name, TWO_UNDERSCORES)
            else:
                self.assertNotIn(node.name, dir(builtins) + UNUSED_NAMES)

    def test_no_annotation(self):
        for name, node in nodes(ast.FunctionDef):
            self.assertIsNone(node.returns, (name, node.name))
            self.assertEqual([one.arg for one in node.args.args if one.annotation is not None], [], (name, node.name))

    def test_keywords(self):
        allowed = {"sorted": ["key", "reverse"], "min": ["key", "default"], "max": ["key", "default"], "sum": ["start"],
                   "enumerate": ["start"], "zip": ["strict"]}
        for name, node in nodes(ast.Call):
            for keyword in node.keywords:
                self.assertIn(keyword.arg, allowed.get(getattr(node.func, "id", ""), []), (name, node.lineno))

    def test_lambdas_of_one_line(self):
        seen = []
        for name, node in nodes(ast.Lambda):
            seen.append((name, node.lineno, tuple(one.arg for one in node.args.args)))
        self.assertEqual(len(seen), len(set(seen)))

    def test_own_names_are_called(self):
        # Those that are called and not kept; the classes among them may stand by isinstance.
        for name, tree in trees().items():
            above = parents(tree)
            for node in ast.walk(tree):
                if isinstance(node, ast.Name) and node.id in OWN_NAMES and node.id[0].islower():
                    around = above[node]
                    called = isinstance(around, ast.Call) and around.func is node
                    asked = isinstance(around, ast.Call) and getattr(around.func, "id", "") == "isinstance"
                    self.assertTrue(called or asked, (name, node.lineno))

    def test_set_is_used_on_the_spot(self):
        for name, tree in trees().items():
            above = parents(tree)
            for node in ast.walk(tree):
                if isinstance(node, ast.Call) and isinstance(node.func, ast.Name) and node.func.id == "set":
                    around = above[node]
                    while isinstance(around, ast.BinOp):
                        around = above[around]
                    asked = isinstance(around, ast.Compare)
                    walked = isinstance(around, ast.Call) and getattr(around.func, "id", "") in ("sorted", "len")
                    self.assertTrue(asked or walked, (name, node.lineno))

    def test_walked_on_the_spot(self):
        for name, tree in trees().items():
            above = parents(tree)
            for node in [node for node in ast.walk(tree) if isinstance(node, ast.Call)]:
                called = getattr(node.func, "id", getattr(node.func, "attr", ""))
                if called in WALKED:
                    around = above[node]
                    looped = isinstance(around, (ast.For, ast.comprehension)) and around.iter is node
                    walker = getattr(around, "func", None)
                    handed = getattr(walker, "id", getattr(walker, "attr", "")) in WALKERS
                    self.assertTrue(looped or handed, (name, node.lineno))


class Classes(unittest.TestCase):
    def test_classes(self):
        methods, fields = [], []
        for name, node in nodes(ast.ClassDef):
            self.assertLessEqual(len(node.bases), 1, node.name)
            self.assertEqual(node.decorator_list + node.keywords, [], node.name)
            for part in node.body:
                self.assertIsInstance(part, (ast.FunctionDef, ast.Pass), node.name)
            own = [part.name for part in node.body if isinstance(part, ast.FunctionDef)]
            self.assertEqual(len(own), len(set(own)), node.name)
            methods += own
        for name, node in nodes(ast.Attribute):
            if isinstance(node.ctx, ast.Store):
                self.assertIsInstance(node.value, ast.Name, (name, node.lineno))
                fields.append(node.attr)
        self.assertEqual(set(methods) & set(fields), set())
        for field in fields:
            for value in (1, "", [], {}, (), set(), b"", ValueError()):
                self.assertFalse(hasattr(value, field), field)

    def test_where_classes_stand(self):
        classes = [node.name for name, node in nodes(ast.ClassDef)]
        for name, tree in trees().items():
            above = parents(tree)
            for node in ast.walk(tree):
                if isinstance(node, ast.Name) and node.id in classes:
                    around = above[node]
                    called = isinstance(around, ast.Call) and around.func is node
                    asked = isinstance(around, ast.Call) and getattr(around.func, "id", "") == "isinstance"
                    base = isinstance(around, ast.ClassDef) or isinstance(around, ast.ExceptHandler)
                    init = isinstance(around, ast.Attribute) and around.attr == "__init__"
                    self.assertTrue(called or asked or base or init, (name, node.lineno))

    def test_methods_that_are_not_called(self):
        own = [part.name for name, node in nodes(ast.ClassDef) for part in node.body if isinstance(part, ast.FunctionDef)]
        for name, tree in trees().items():
            above = parents(tree)
            for node in ast.walk(tree):
                if isinstance(node, ast.Attribute) and node.attr in own + METHODS:
                    around = above[node]
                    self.assertTrue(isinstance(around, ast.Call) and around.func is node, (name, node.lineno))

    def test_making_gives_back_nothing(self):
        for name, node in nodes(ast.FunctionDef):
            if node.name == "__init__":
                self.assertEqual([one for one in ast.walk(node) if isinstance(one, ast.Return)], [], name)

    def test_methods_that_are_called(self):
        own = [part.name for name, node in nodes(ast.ClassDef) for part in node.body if isinstance(part, ast.FunctionDef)]
        for name, node in nodes(ast.Call):
            if isinstance(node.func, ast.Attribute):
                self.assertIn(node.func.attr, METHODS + own, (name, node.lineno))

    def test_errors_that_are_taken(self):
        for name, node in nodes(ast.ExceptHandler):
            self.assertIsNotNone(node.type, name)
            self.assertNotIn(getattr(node.type, "id", ""), ["Exception", "TypeError"], name)
        for name, node in nodes(ast.Raise):
            self.assertIsInstance(node.exc, ast.Call, (name, node.lineno))


if __name__ == "__main__":
    unittest.main()
