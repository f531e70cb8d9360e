"""The package keeps to its small part of Python, as far as a walk through its syntax can tell."""

import ast
import builtins
import pathlib
import re
import unittest

PACKAGE = pathlib.Path(__file__).resolve().parent.parent / "chunkgraph"
FILES = sorted(path for path in PACKAGE.rglob("*") if "__pycache__" not in path.parts)

OWN_NAMES = """len range enumerate zip min max sum abs sorted reversed int str bool list tuple dict set frozenset
isinstance ord repr any all divmod Exception ValueError KeyError IndexError LookupError ZeroDivisionError ArithmeticError
OverflowError RuntimeError NotImplementedError StopIteration""".split()

METHODS = """append clear copy count endswith extend find get index insert isalnum isalpha isdigit islower isspace isupper
items join keys ljust lower lstrip partition pop remove replace reverse rfind rjust rpartition rsplit rstrip setdefault split
splitlines startswith strip update upper values zfill bit_length""".split()

WORDS_NOWHERE = """type typing typing_extensions enum Enum IntEnum StrEnum Flag IntFlag Generic Protocol ABC ABCMeta
namedtuple NamedTuple TypedDict TYPE_CHECKING abstractmethod""".split()

NAMES_NOWHERE = """register mro elements open input version_info with_traceback add_note format format_map attrgetter
breakpoint compile delattr dir eval exec exit gc getattr globals hasattr help id importlib locals methodcaller os quit setattr
super vars sys chr print""".split()

SYNTAX = (
    ast.Module, ast.Expr, ast.ImportFrom, ast.alias, ast.FunctionDef, ast.ClassDef, ast.arguments, ast.arg, ast.Assign,
    ast.AugAssign, ast.If, ast.While, ast.For, ast.Return, ast.Break, ast.Continue, ast.Pass, ast.Raise, ast.Try,
    ast.ExceptHandler, ast.Constant, ast.Name, ast.Attribute, ast.Subscript, ast.Slice, ast.Call, ast.keyword, ast.List,
    ast.Tuple, ast.Dict, ast.ListComp, ast.comprehension, ast.BoolOp, ast.UnaryOp, ast.BinOp, ast.Compare, ast.IfExp,
    ast.Lambda, ast.expr_context, ast.boolop, ast.operator, ast.unaryop, ast.cmpop)

BUILT_IN_KINDS = (str, int, list, dict, set, bytes, tuple)


def trees():
    return [(path.name, ast.parse(path.read_text("utf-8"))) for path in FILES if path.suffix == ".py"]


def walked(kind):
    return [(name, node) for name, tree in trees() for node in ast.walk(tree) if isinstance(node, kind)]


def bound_names(tree):
    """Every name that a file gives a meaning, and whether it is a parameter or a local."""
    names = [node.id for node in ast.walk(tree) if isinstance(node, ast.Name) and isinstance(node.ctx, ast.Store)]
    names += [node.arg for node in ast.walk(tree) if isinstance(node, ast.arg)]
    names += [node.name for node in ast.walk(tree) if isinstance(node, ast.ExceptHandler) and node.name]
    return names


class Files(unittest.TestCase):
    def test_only_python_files_with_plain_names(self):
        for path in FILES:
            self.assertRegex(path.name, r"^(__init__|[a-z][a-z0-9_]*)\.py$")
            self.assertNotIn(path.stem, dir(builtins))

    def test_sizes_and_signs(self):
        for path in FILES:
            text = path.read_text("utf-8")
            lines = text.split("\n")
            self.assertLessEqual(len(lines), 400, path.name)
            self.assertLessEqual(max(len(line) for line in lines), 120, path.name)
            self.assertRegex(text, r"\A[ -~\n]*\Z", path.name)

    def test_functions_are_small(self):
        for name, node in walked(ast.FunctionDef):
            self.assertLessEqual(node.end_lineno - node.lineno + 1, 40, (name, node.name))

    def test_words_that_stand_nowhere(self):
        for path in FILES:
            words = re.findall(r"\w+", path.read_text("utf-8"))
            self.assertFalse([word for word in words if word in WORDS_NOWHERE], path.name)
            self.assertFalse([word for word in words if re.search("dataclass|overload|contextmanager", word)], path.name)


class Imports(unittest.TestCase):
    def test_from_the_file_that_defines_the_name(self):
        defined = {}
        for name, tree in trees():
            names = [node.name for node in tree.body if isinstance(node, (ast.FunctionDef, ast.ClassDef))]
            names += [node.targets[0].id for node in tree.body if isinstance(node, ast.Assign)]
            self.assertEqual(len(names), len(set(names)), name)
            defined["chunkgraph." + name[:-3]] = names
        for name, node in walked(ast.ImportFrom):
            self.assertEqual(node.level, 0)
            for alias in node.names:
                self.assertIn(alias.name, defined[node.module], name)
                self.assertIsNone(alias.asname)

    def test_no_two_files_draw_from_one_another(self):
        drawn = {}
        for name, tree in trees():
            drawn["chunkgraph." + name[:-3]] = {node.module for node in tree.body if isinstance(node, ast.ImportFrom)}
        while drawn:
            free = [name for name, needed in drawn.items() if not needed & set(drawn)]
            self.assertTrue(free, drawn)
            for name in free:
                del drawn[name]


class Syntax(unittest.TestCase):
    def test_only_the_syntax_that_is_listed(self):
        for name, node in walked(ast.AST):
            self.assertIsInstance(node, SYNTAX, (name, getattr(node, "lineno", 0)))
            self.assertNotIsInstance(node, (ast.Div, ast.MatMult), (name, getattr(node, "lineno", 0)))

    def test_a_statement_is_no_bare_value(self):
        for name, tree in trees():
            for node in ast.walk(tree):
                if isinstance(node, ast.Expr) and node is not tree.body[0]:
                    self.assertIsInstance(node.value, ast.Call, (name, node.lineno))

    def test_assignments_have_one_target(self):
        for name, node in walked(ast.Assign):
            self.assertEqual(len(node.targets), 1, (name, node.lineno))
            self.assertNotIsInstance(node.targets[0], (ast.Tuple, ast.List), (name, node.lineno))

    def test_loops_have_no_else_and_comprehensions_one_for(self):
        for name, node in walked((ast.For, ast.While)):
            self.assertEqual(node.orelse, [], (name, node.lineno))
        for name, node in walked(ast.ListComp):
            self.assertEqual(len(node.generators), 1, (name, node.lineno))
            self.assertLessEqual(len(node.generators[0].ifs), 1, (name, node.lineno))

    def test_functions_are_plain(self):
        for name, node in walked(ast.FunctionDef):
            arguments = node.args
            self.assertFalse(arguments.vararg or arguments.kwarg or arguments.kwonlyargs or arguments.posonlyargs, node.name)
            self.assertFalse(node.decorator_list or node.returns, node.name)

    def test_classes_hold_methods_alone(self):
        for name, node in walked(ast.ClassDef):
            self.assertLessEqual(len(node.bases), 1)
            for inner in node.body:
                self.assertIsInstance(inner, ast.FunctionDef, (name, node.name))

    def test_is_stands_beside_none_true_and_false(self):
        for name, node in walked(ast.Compare):
            if any(isinstance(sign, (ast.Is, ast.IsNot)) for sign in node.ops):
                self.assertIn(repr(node.comparators[0].value), ("None", "True", "False"), (name, node.lineno))

    def test_keywords_are_those_of_pythons_own_functions(self):
        allowed = {"sorted": ("key", "reverse"), "min": ("key", "default"), "max": ("key", "default"), "sum": ("start",),
                   "enumerate": ("start",), "zip": ("strict",)}
        for name, node in walked(ast.Call):
            for keyword in node.keywords:
                self.assertIn(keyword.arg, allowed.get(getattr(node.func, "id", ""), ()), (name, node.lineno))

    def test_no_powers(self):
        self.assertFalse(walked(ast.Pow))

    def test_errors_are_taken_by_their_own_names(self):
        own = [node.name for name, node in walked(ast.ClassDef)]
        for name, node in walked(ast.ExceptHandler):
            self.assertIn(getattr(node.type, "id", None), own, (name, node.lineno))

    def test_texts_have_no_percent(self):
        for name, node in walked(ast.Constant):
            self.assertIn(type(node.value), (int, str, bool, type(None)), (name, node.lineno))
            self.assertNotIn("%", str(node.value), (name, node.lineno))


class Names(unittest.TestCase):
    def test_pythons_own_names(self):
        for name, node in walked(ast.Name):
            if node.id in dir(builtins):
                self.assertIn(node.id, OWN_NAMES, (name, node.lineno))
                self.assertIsInstance(node.ctx, ast.Load, (name, node.lineno))
            self.assertNotIn(node.id, NAMES_NOWHERE, (name, node.lineno))
            self.assertFalse(node.id.startswith("_"), (name, node.lineno))

    def test_parameters_and_locals_hide_nothing(self):
        for name, tree in trees():
            taken = [node.name for node in tree.body if isinstance(node, ast.ClassDef)]
            for node in tree.body:
                if isinstance(node, ast.ImportFrom):
                    taken += [alias.name for alias in node.names]
            for bound in bound_names(tree):
                self.assertNotIn(bound, taken + dir(builtins), name)

    def test_methods_and_values_of_objects(self):
        methods = [inner.name for name, node in walked(ast.ClassDef) for inner in node.body]
        values = [node.attr for name, node in walked(ast.Attribute) if isinstance(node.ctx, ast.Store)]
        self.assertFalse(set(methods) & set(values))
        for own in set(methods) - {"__init__"} | set(values):
            self.assertFalse([kind for kind in BUILT_IN_KINDS if hasattr(kind, own)], own)
        for name, node in walked(ast.Attribute):
            self.assertIn(node.attr, METHODS + methods + values, (name, node.lineno))

    def test_sets_are_asked_on_the_spot(self):
        for name, tree in trees():
            spots = [inner for node in ast.walk(tree) if isinstance(node, ast.Call) and isinstance(node.func, ast.Name)
                     and node.func.id in ("len", "sorted") for inner in node.args]
            for node in ast.walk(tree):
                if isinstance(node, ast.Call) and isinstance(node.func, ast.Name) and node.func.id == "set":
                    self.assertIn(node, spots, (name, node.lineno))
