"""The package keeps to the small part of Python that it is written in: those of its rules that are easily seen."""

import ast
import builtins
import re
import unittest
from pathlib import Path

PACKAGE = Path(__file__).resolve().parent.parent / "guesscode"
FILES = sorted(path for path in PACKAGE.rglob("*") if "__pycache__" not in path.parts)

NODES = """
Module FunctionDef ClassDef ImportFrom alias arguments arg Assign AugAssign If While For Return Break Continue Pass
Raise Try ExceptHandler Expr BinOp Add Sub Mult FloorDiv Mod Pow BitAnd BitOr BitXor LShift RShift UnaryOp USub Not
Invert UAdd BoolOp And Or Compare Eq NotEq Lt LtE Gt GtE Is IsNot In NotIn IfExp Call keyword Attribute Subscript
Slice ListComp comprehension JoinedStr FormattedValue Constant Name Load Store List Tuple Dict Set Lambda
""".split()

OWN_NAMES = """
len range enumerate zip min max sum abs sorted reversed int str bool list tuple dict set frozenset isinstance ord
repr any all divmod Exception ValueError TypeError KeyError IndexError LookupError ZeroDivisionError ArithmeticError
OverflowError RuntimeError NotImplementedError AttributeError StopIteration
""".split()

METHODS = """
append clear copy count endswith extend find get index insert isalnum isalpha isdigit islower isspace isupper items
join keys ljust lower lstrip partition pop remove replace reverse rfind rjust rpartition rsplit rstrip setdefault
split splitlines startswith strip update upper values zfill bit_length
""".split()

KEYWORDS = {"sorted": ["key", "reverse"], "min": ["key", "default"], "max": ["key", "default"], "sum": ["start"],
            "enumerate": ["start"], "zip": ["strict"]}

WALKED_AT_ONCE = ["zip", "enumerate", "reversed", "range"]
WALKERS = "list tuple dict sorted sum any all enumerate zip min max".split()

WORDS = """
type typing typing_extensions enum Enum IntEnum StrEnum Flag IntFlag Generic Protocol ABC ABCMeta namedtuple
NamedTuple TypedDict TYPE_CHECKING abstractmethod
""".split()
PARTS = ["dataclass", "overload", "contextmanager"]
NO_NAMES = """
register mro elements open input version_info with_traceback add_note attrgetter breakpoint builtins compile
copyright credits delattr dir eval exec exit gc getattr globals hasattr help id importlib license locals
methodcaller os quit setattr super vars sys format format_map chr print
""".split()


def tree_of(path):
    return ast.parse(path.read_text(encoding="utf-8"))


def nodes_of(path, *kinds):
    return [node for node in ast.walk(tree_of(path)) if isinstance(node, kinds)]


def bound_in(tree):
    """Every name that is bound anywhere in a file."""
    names = []
    for node in ast.walk(tree):
        if isinstance(node, (ast.FunctionDef, ast.ClassDef)):
            names.append(node.name)
        elif isinstance(node, ast.arg):
            names.append(node.arg)
        elif isinstance(node, ast.alias):
            names.append(node.name)
        elif isinstance(node, ast.Name) and isinstance(node.ctx, ast.Store):
            names.append(node.id)
        elif isinstance(node, ast.ExceptHandler) and node.name:
            names.append(node.name)
    return names


def bound_at_top(tree):
    names = []
    for node in tree.body:
        if isinstance(node, (ast.FunctionDef, ast.ClassDef)):
            names.append(node.name)
        elif isinstance(node, ast.Assign):
            names.append(node.targets[0].id)
    return names


class Files(unittest.TestCase):
    def test_sources_alone_with_plain_names(self):
        self.assertIn("__init__.py", [path.name for path in FILES])
        for path in FILES:
            self.assertRegex(path.name, r"^(__init__|[a-z][a-z0-9_]*)\.py$")

    def test_signs_and_sizes(self):
        for path in FILES:
            text = path.read_bytes().decode("ascii")
            self.assertRegex(text, r"\A[ -~\n]*\Z", path.name)
            self.assertLessEqual(len(text.splitlines()), 400)
            self.assertLessEqual(max(len(line) for line in text.splitlines()), 120)
            for node in nodes_of(path, ast.FunctionDef):
                self.assertLessEqual(node.end_lineno - node.lineno + 1, 40, node.name)

    def test_words_that_stand_nowhere(self):
        for path in FILES:
            text = path.read_text(encoding="utf-8")
            words = re.findall(r"\w+", text)
            self.assertEqual([word for word in words if word in WORDS], [], path.name)
            self.assertEqual([part for part in PARTS if part in text], [], path.name)


class Imports(unittest.TestCase):
    def test_own_names_from_the_files_that_define_them(self):
        for path in FILES:
            for node in nodes_of(path, ast.Import, ast.ImportFrom):
                self.assertIsInstance(node, ast.ImportFrom, path.name)
                self.assertRegex(node.module, r"^guesscode\.[a-z]+$")
                self.assertEqual(node.level, 0)
                defined = bound_at_top(tree_of(PACKAGE / (node.module.split(".")[1] + ".py")))
                for alias in node.names:
                    self.assertIn(alias.name, defined, path.name)
                    self.assertIsNone(alias.asname)

    def test_imports_stand_at_the_top(self):
        for path in FILES:
            at_top = [node for node in tree_of(path).body if isinstance(node, ast.ImportFrom)]
            self.assertEqual(len(at_top), len(nodes_of(path, ast.Import, ast.ImportFrom)), path.name)

    def test_no_two_files_draw_from_one_another(self):
        draws = {path.stem: {node.module.split(".")[1] for node in nodes_of(path, ast.ImportFrom)} for path in FILES}
        while draws:
            free = [stem for stem in draws if not draws[stem] & set(draws)]
            self.assertNotEqual(free, [], draws)
            draws = {stem: drawn for stem, drawn in draws.items() if stem not in free}

    def test_nothing_that_is_drawn_lies_idle(self):
        for path in FILES:
            used = [node.id for node in nodes_of(path, ast.Name)]
            for alias in nodes_of(path, ast.alias):
                self.assertIn(alias.name, used, path.name)


class Statements(unittest.TestCase):
    def test_only_the_forms_that_are_listed(self):
        for path in FILES:
            for node in ast.walk(tree_of(path)):
                self.assertIn(type(node).__name__, NODES, (path.name, getattr(node, "lineno", 0)))

    def test_loops_tries_and_assignments(self):
        for path in FILES:
            for node in nodes_of(path, ast.For, ast.While):
                self.assertEqual(node.orelse, [])
            for node in nodes_of(path, ast.Try):
                self.assertEqual(node.finalbody, [])
            for node in nodes_of(path, ast.Assign):
                self.assertEqual(len(node.targets), 1)
            for node in nodes_of(path, ast.ListComp):
                self.assertEqual(len(node.generators), 1)
                self.assertLessEqual(len(node.generators[0].ifs), 1)

    def test_the_top_of_a_file(self):
        for path in FILES:
            body = tree_of(path).body
            self.assertIsInstance(body[0].value.value, str)
            for node in body[1:]:
                self.assertIsInstance(node, (ast.ImportFrom, ast.FunctionDef, ast.ClassDef, ast.Assign))
            names = bound_at_top(tree_of(path))
            self.assertEqual(len(names), len(set(names)), path.name)
            classes = [node for node in body if isinstance(node, ast.ClassDef)]
            self.assertEqual(len(classes), len(nodes_of(path, ast.ClassDef)))

    def test_functions_and_classes(self):
        for path in FILES:
            for node in nodes_of(path, ast.FunctionDef, ast.ClassDef):
                self.assertEqual(node.decorator_list, [])
            for node in nodes_of(path, ast.arguments):
                self.assertEqual([node.vararg, node.kwarg, node.kwonlyargs, node.posonlyargs], [None, None, [], []])
            for node in nodes_of(path, ast.ClassDef):
                self.assertLessEqual(len(node.bases), 1)
                self.assertEqual(node.keywords, [])
                for part in node.body:
                    self.assertIsInstance(part, (ast.FunctionDef, ast.Pass))


class Expressions(unittest.TestCase):
    def test_plain_values(self):
        for path in FILES:
            for node in nodes_of(path, ast.Constant):
                self.assertIn(type(node.value), [int, str, bool, type(None)])
                if isinstance(node.value, str):
                    self.assertNotIn("%", node.value)

    def test_is_stands_beside_none_true_and_false(self):
        for path in FILES:
            for node in nodes_of(path, ast.Compare):
                for operator, right in zip(node.ops, node.comparators):
                    if isinstance(operator, (ast.Is, ast.IsNot)):
                        self.assertIn(right.value, [None, True, False])

    def test_plain_names_none_of_them_pythons_own(self):
        for path in FILES:
            bound = bound_in(tree_of(path))
            for name in bound:
                self.assertRegex(name, r"^([A-Za-z][A-Za-z0-9_]*|__init__)$")
                self.assertNotIn(name, OWN_NAMES + NO_NAMES + dir(builtins))
            for node in nodes_of(path, ast.Name):
                self.assertIn(node.id, bound + OWN_NAMES, (path.name, node.lineno))
                self.assertNotIn(node.id, NO_NAMES)

    def test_no_local_is_called_like_an_import_or_a_class(self):
        for path in FILES:
            drawn = [alias.name for alias in nodes_of(path, ast.alias)]
            drawn += [node.name for node in nodes_of(path, ast.ClassDef)]
            for node in nodes_of(path, ast.arg):
                self.assertNotIn(node.arg, drawn)
            for node in nodes_of(path, ast.Name):
                if isinstance(node.ctx, ast.Store):
                    self.assertNotIn(node.id, drawn)

    def test_methods_and_values_of_objects(self):
        for path in FILES:
            own = [node.name for node in nodes_of(path, ast.FunctionDef)]
            own += [node.attr for node in nodes_of(path, ast.Attribute) if isinstance(node.ctx, ast.Store)]
            for node in nodes_of(path, ast.Attribute):
                self.assertIn(node.attr, METHODS + own, (path.name, node.lineno))
                self.assertNotIn(node.attr, NO_NAMES)

    def test_calls_of_pythons_own(self):
        for path in FILES:
            calls = nodes_of(path, ast.Call)
            called = [ast.dump(node.func) + str(node.func.lineno) for node in calls]
            for node in calls:
                name = node.func.id if isinstance(node.func, ast.Name) else ""
                for keyword in node.keywords:
                    self.assertIn(keyword.arg, KEYWORDS.get(name, []), (path.name, node.lineno))
            for node in nodes_of(path, ast.Name):
                if node.id in WALKED_AT_ONCE + ["len", "sorted", "all", "any", "min", "max", "sum"]:
                    self.assertIn(ast.dump(node) + str(node.lineno), called, (path.name, node.lineno))

    def test_sets_are_not_written_or_kept(self):
        for path in FILES:
            self.assertEqual(nodes_of(path, ast.Set), [])
            self.assertNotIn("set", [node.id for node in nodes_of(path, ast.Name)])
            self.assertNotIn("frozenset", [node.id for node in nodes_of(path, ast.Name)])

    def test_what_is_walked_is_walked_on_the_spot(self):
        for path in FILES:
            tree = tree_of(path)
            walked = []
            for node in ast.walk(tree):
                if isinstance(node, (ast.For, ast.comprehension)):
                    walked.append(node.iter)
                elif isinstance(node, ast.Call) and isinstance(node.func, ast.Name) and node.func.id in WALKERS:
                    walked.extend(node.args[:1])
            for node in ast.walk(tree):
                if isinstance(node, ast.Call) and self.is_walker(node.func):
                    self.assertTrue(any(node is one for one in walked), (path.name, node.lineno))

    def is_walker(self, called):
        if isinstance(called, ast.Name):
            return called.id in WALKED_AT_ONCE
        return called.attr in ["items", "keys", "values"]


if __name__ == "__main__":
    unittest.main()
