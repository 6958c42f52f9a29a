"""The form of the package: what of ../shared/LANGUAGE.md a short look at the code can tell."""

import ast
import builtins
import pathlib
import re
import unittest
import warnings

FOLDER = pathlib.Path(__file__).resolve().parent.parent / "cleanrows"
PATHS = sorted(FOLDER.glob("*.py"))

BUILTINS = set("""len range enumerate zip min max sum abs sorted reversed int str bool bytes list tuple dict set
    isinstance ord repr any all divmod Exception ValueError TypeError KeyError IndexError LookupError
    ZeroDivisionError ArithmeticError OverflowError RuntimeError NotImplementedError StopIteration""".split())

METHODS = set("""append clear copy count endswith extend find get index insert isalnum isalpha isdigit islower isspace
    isupper items join keys ljust lower lstrip partition pop remove replace reverse rfind rjust rpartition rsplit
    rstrip setdefault split splitlines startswith strip update upper values zfill bit_length add discard""".split())

BARRED_NODES = (
    ast.With, ast.Match, ast.Global, ast.Nonlocal, ast.Yield, ast.YieldFrom, ast.AsyncFunctionDef, ast.Await,
    ast.GeneratorExp, ast.NamedExpr, ast.Div, ast.MatMult, ast.Import, ast.TryStar,
)

BARRED_WORDS = re.compile(
    r"\b(type|typing|typing_extensions|enum|Enum|IntEnum|StrEnum|Flag|IntFlag|Generic|Protocol|ABC|ABCMeta|namedtuple"
    r"|NamedTuple|TypedDict|TYPE_CHECKING|abstractmethod)\b|dataclass|overload|contextmanager")


def parsed():
    return [(path, ast.parse(path.read_text())) for path in PATHS]


def nodes(kind):
    for path, tree in parsed():
        for node in ast.walk(tree):
            if isinstance(node, kind):
                yield path, node


def child_pairs():
    """Each node of the package with the one that it stands in."""
    for path, tree in parsed():
        for parent in ast.walk(tree):
            for child in ast.iter_child_nodes(parent):
                yield path, parent, child


def called(node):
    """The name that a call calls, "" of other nodes."""
    if not isinstance(node, ast.Call):
        return ""
    return node.func.id if isinstance(node.func, ast.Name) else getattr(node.func, "attr", "")


def imported_files(name):
    tree = ast.parse((FOLDER / (name + ".py")).read_text())
    return [node.module.split(".")[1] for node in tree.body if isinstance(node, ast.ImportFrom)]


def own_classes():
    return {node.name: node for path, node in nodes(ast.ClassDef)}


def own_errors():
    """The own classes that come from ValueError, straight or through others."""
    classes = own_classes()
    errors = {"ValueError"}
    for turn in classes:
        errors |= {name for name, node in classes.items() for base in node.bases if base.id in errors}
    return errors - {"ValueError"}


def own_methods():
    return {part.name for path, node in nodes(ast.ClassDef) for part in node.body if isinstance(part, ast.FunctionDef)}


class LanguageTest(unittest.TestCase):

    def test_the_folder(self):
        names = [path.name for path in FOLDER.iterdir() if path.name != "__pycache__"]
        self.assertIn("__init__.py", names)
        for name in names:
            self.assertRegex(name, r"^[a-z0-9_]+\.py$")

    def test_sizes_and_signs(self):
        for path in PATHS:
            text = path.read_text()
            lines = text.split("\n")
            self.assertLessEqual(len(lines), 400, path)
            self.assertLessEqual(max(len(line) for line in lines), 120, path)
            self.assertEqual([sign for sign in text if not (" " <= sign <= "~" or sign == "\n")], [], path)
            self.assertIsNone(BARRED_WORDS.search(text), path)
        for path, node in nodes(ast.FunctionDef):
            self.assertLessEqual(node.end_lineno - node.lineno + 1, 40, (path, node.name))

    def test_python_gives_no_warning(self):
        with warnings.catch_warnings():
            warnings.simplefilter("error")
            for path in PATHS:
                compile(path.read_text(), str(path), "exec")

    def test_imports_name_the_package_in_full(self):
        for path, node in nodes(ast.ImportFrom):
            self.assertEqual(node.level, 0, path)
            self.assertRegex(node.module, r"^cleanrows\.[a-z0-9_]+$")
            target = ast.parse((FOLDER / (node.module.split(".")[1] + ".py")).read_text())
            defined = {part.name for part in target.body if isinstance(part, (ast.FunctionDef, ast.ClassDef))}
            defined |= {name.id for part in target.body if isinstance(part, ast.Assign) for name in part.targets}
            self.assertLessEqual({alias.name for alias in node.names}, defined, path)

    def test_barred_statements_and_expressions(self):
        for path, node in nodes(BARRED_NODES):
            self.fail(f"{path.name}:{getattr(node, 'lineno', 0)}: {node.__class__.__name__}")
        for path, node in nodes((ast.For, ast.While)):
            self.assertEqual(node.orelse, [], path)
        for path, node in nodes((ast.FunctionDef, ast.ClassDef)):
            self.assertEqual(node.decorator_list, [], path)
        for path, node in nodes(ast.Constant):
            self.assertNotIsInstance(node.value, (float, complex), path)
            if isinstance(node.value, str):
                self.assertNotIn("%", node.value, path)

    def test_is_goes_with_none_true_and_false(self):
        for path, node in nodes(ast.Compare):
            for operator, right in zip(node.ops, node.comparators):
                if isinstance(operator, (ast.Is, ast.IsNot)):
                    self.assertIn(getattr(right, "value", 0), (None, True, False), (path, node.lineno))

    def test_names(self):
        every_builtin = set(dir(builtins))
        for path, node in nodes(ast.Name):
            self.assertFalse(node.id.startswith("_"), (path, node.id))
            if isinstance(node.ctx, ast.Load):
                self.assertFalse(node.id in every_builtin and node.id not in BUILTINS, (path, node.id))
            else:
                self.assertNotIn(node.id, every_builtin, (path, node.id))
        for path, node in nodes(ast.arg):
            self.assertNotIn(node.arg, every_builtin, (path, node.arg))

    def test_methods_and_attributes(self):
        methods = own_methods()
        assigned = {node.attr for path, node in nodes(ast.Attribute) if isinstance(node.ctx, ast.Store)}
        self.assertEqual(methods & assigned, set())
        for path, node in nodes(ast.Call):
            if isinstance(node.func, ast.Attribute):
                self.assertIn(node.func.attr, METHODS | methods, (path, node.lineno))

    def test_classes(self):
        for path, node in nodes(ast.ClassDef):
            self.assertLessEqual(len(node.bases), 1, path)
            for part in node.body:
                is_docstring = isinstance(part, ast.Expr) and isinstance(part.value, ast.Constant)
                self.assertTrue(is_docstring or isinstance(part, ast.FunctionDef), (path, node.name))

    def test_own_names_are_not_those_of_builtin_values(self):
        taken = {name for kind in (str, int, list, dict, set, bytes) for name in dir(kind)}
        own = own_methods() | {node.attr for path, node in nodes(ast.Attribute) if isinstance(node.ctx, ast.Store)}
        self.assertEqual({name for name in own & taken if not name.startswith("__")}, set())

    def test_an_attribute_that_is_read_is_assigned_somewhere(self):
        assigned = {node.attr for path, node in nodes(ast.Attribute) if isinstance(node.ctx, ast.Store)}
        for path, parent, child in child_pairs():
            is_called = isinstance(parent, ast.Call) and parent.func is child
            if isinstance(child, ast.Attribute) and isinstance(child.ctx, ast.Load) and not is_called:
                self.assertIn(child.attr, assigned, (path, child.lineno))

    def test_module_level(self):
        for path, tree in parsed():
            for at, part in enumerate(tree.body):
                is_docstring = at == 0 and isinstance(part, ast.Expr) and isinstance(part.value, ast.Constant)
                kinds = (ast.ImportFrom, ast.FunctionDef, ast.ClassDef, ast.Assign)
                self.assertTrue(is_docstring or isinstance(part, kinds), (path, part.lineno))

    def test_no_local_name_is_that_of_a_class_or_an_import(self):
        for path, tree in parsed():
            outer = {part.name for part in tree.body if isinstance(part, ast.ClassDef)}
            outer |= {one.name for part in tree.body if isinstance(part, ast.ImportFrom) for one in part.names}
            for node in ast.walk(tree):
                if isinstance(node, ast.Name) and isinstance(node.ctx, ast.Store):
                    self.assertNotIn(node.id, outer, (path, node.lineno))
                if isinstance(node, ast.arg):
                    self.assertNotIn(node.arg, outer, (path, node.lineno))

    def test_no_files_import_from_each_other(self):
        for path in PATHS:
            reached, ahead = set(), imported_files(path.stem)
            while ahead:
                name = ahead.pop()
                if name not in reached:
                    reached.add(name)
                    ahead += imported_files(name)
            self.assertNotIn(path.stem, reached)

    def test_sets_stand_where_they_may(self):
        for path, parent, child in child_pairs():
            if isinstance(child, (ast.Set, ast.SetComp)) or called(child) == "set":
                is_tested = isinstance(parent, ast.Compare) and isinstance(parent.ops[0], (ast.In, ast.NotIn))
                self.assertTrue(is_tested or called(parent) in ("sorted", "len"), (path, child.lineno))

    def test_iterated_at_once(self):
        lazy = ("zip", "enumerate", "reversed", "range", "items", "keys", "values")
        takers = ("list", "tuple", "dict", "sorted", "sum", "any", "all", "enumerate", "zip", "bytes", "min", "max")
        for path, parent, child in child_pairs():
            if called(child) in lazy:
                is_looped = isinstance(parent, (ast.For, ast.comprehension)) and parent.iter is child
                self.assertTrue(is_looped or called(parent) in takers, (path, child.lineno))

    def test_errors_are_made_on_the_spot_and_caught_by_name(self):
        errors = own_errors()
        for path, node in nodes(ast.Raise):
            if node.exc is not None:
                self.assertIn(called(node.exc), errors, (path, node.lineno))
                self.assertEqual([part.__class__ for part in node.exc.args], [ast.Constant], (path, node.lineno))
        for path, node in nodes(ast.ExceptHandler):
            names = node.type.elts if isinstance(node.type, ast.Tuple) else [node.type]
            for name in names:
                self.assertIn(getattr(name, "id", ""), errors | {"KeyError", "ZeroDivisionError"}, (path, node.lineno))

    def test_classes_are_called_or_tested_only(self):
        classes = own_classes()
        for path, parent, child in child_pairs():
            if isinstance(child, ast.Name) and child.id in classes:
                is_fine = isinstance(parent, (ast.ClassDef, ast.ExceptHandler)) or called(parent) == child.id
                is_fine = is_fine or (called(parent) == "isinstance" and parent.args[0] is not child)
                self.assertTrue(is_fine, (path, child.lineno))

    def test_keywords_of_builtins(self):
        allowed = {"sorted": {"key", "reverse"}, "min": {"key", "default"}, "max": {"key", "default"},
                   "sum": {"start"}, "enumerate": {"start"}, "zip": {"strict"}}
        for path, node in nodes(ast.Call):
            words = {one.arg for one in node.keywords}
            if isinstance(node.func, ast.Name) and node.func.id in BUILTINS:
                self.assertLessEqual(words, allowed.get(node.func.id, set()), (path, node.lineno))
            elif isinstance(node.func, ast.Attribute):
                self.assertEqual(words, set(), (path, node.lineno))
            self.assertFalse([one for one in node.args if isinstance(one, ast.Starred)], (path, node.lineno))

    def test_parameters_are_plain(self):
        for path, node in nodes((ast.FunctionDef, ast.Lambda)):
            parts = node.args
            extra = [parts.vararg, parts.kwarg, *parts.posonlyargs, *parts.kwonlyargs, *parts.defaults]
            self.assertEqual([one for one in extra if one is not None], [], (path, node.lineno))

    def test_functions_are_not_nested(self):
        for path, parent, child in child_pairs():
            if isinstance(child, (ast.FunctionDef, ast.ClassDef)):
                self.assertIsInstance(parent, (ast.Module, ast.ClassDef), (path, child.lineno))

    def test_what_is_iterated_is_not_modified(self):
        changing = {"append", "clear", "extend", "insert", "pop", "remove", "reverse", "setdefault", "update"}
        for path, node in nodes(ast.For):
            over = {one.id for one in ast.walk(node.iter) if isinstance(one, ast.Name)}
            for part in ast.walk(ast.Module(node.body, [])):
                if called(part) in changing and isinstance(part.func, ast.Attribute):
                    self.assertNotIn(getattr(part.func.value, "id", ""), over, (path, part.lineno))

    def test_strings(self):
        for path in PATHS:
            self.assertIsNone(re.search(r"\\[^nt\\\"']", path.read_text()), path)
        for path, node in nodes(ast.FormattedValue):
            self.assertIsNone(node.format_spec, (path, node.lineno))
            self.assertFalse([one for one in ast.walk(node.value) if isinstance(one, (ast.Constant, ast.JoinedStr))],
                             (path, node.lineno))

    def test_what_init_gives_back(self):
        for path, node in nodes(ast.FunctionDef):
            if node.name.startswith("__"):
                self.assertEqual(node.name, "__init__", (path, node.lineno))
                self.assertFalse([one for one in ast.walk(node) if isinstance(one, ast.Return)], (path, node.lineno))

    def test_own_functions_are_passed_what_they_take(self):
        takes = {node.name: len(node.args.args) for path, node in nodes(ast.FunctionDef)
                 if not (node.args.args and node.args.args[0].arg == "self")}
        for name, node in own_classes().items():
            makers = [part for part in node.body if isinstance(part, ast.FunctionDef) and part.name == "__init__"]
            takes[name] = len(makers[0].args.args) - 1 if makers else len(node.bases)
        for path, node in nodes(ast.Call):
            if isinstance(node.func, ast.Name) and node.func.id in takes:
                self.assertEqual(len(node.args) + len(node.keywords), takes[node.func.id], (path, node.lineno))


if __name__ == "__main__":
    unittest.main()
