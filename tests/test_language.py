"""The package keeps to the part of Python that LANGUAGE.md tells: what of its rules a look at the code can see."""

import ast
import builtins
import pathlib
import re
import unittest

PACKAGE = pathlib.Path(__file__).resolve().parent.parent / "fourfold"

OWN_NAMES = set("""len range enumerate zip min max sum abs sorted reversed int str bool list tuple dict set frozenset
    isinstance ord repr any all divmod Exception ValueError TypeError KeyError IndexError LookupError ZeroDivisionError
    ArithmeticError OverflowError RuntimeError NotImplementedError AttributeError StopIteration""".split())

METHODS = set("""append clear copy count endswith extend find get index insert isalnum isalpha isdigit islower isspace
    isupper items join keys ljust lower lstrip partition pop remove replace reverse rfind rjust rpartition rsplit rstrip
    setdefault split splitlines startswith strip update upper values zfill bit_length""".split())

NO_WORDS = set("""type typing typing_extensions enum Enum IntEnum StrEnum Flag IntFlag Generic Protocol ABC ABCMeta
    namedtuple NamedTuple TypedDict TYPE_CHECKING abstractmethod""".split())

NO_NAMES = set("""register mro elements open input version_info with_traceback add_note attrgetter breakpoint builtins
    compile copyright credits delattr dir eval exec exit gc getattr globals hasattr help id importlib license locals
    methodcaller os quit setattr super type vars sys format format_map""".split())

STATEMENTS = (ast.Assign, ast.AugAssign, ast.If, ast.While, ast.For, ast.Return, ast.Break, ast.Continue, ast.Pass,
              ast.Raise, ast.Try, ast.Expr, ast.FunctionDef, ast.ClassDef, ast.ImportFrom)

NO_EXPRESSIONS = (ast.SetComp, ast.DictComp, ast.GeneratorExp, ast.NamedExpr, ast.Starred, ast.Await, ast.Yield,
                  ast.YieldFrom, ast.Div, ast.MatMult)

# The keywords that Python's own names may be called with.
KEYWORDS = {"sorted": ["key", "reverse"], "min": ["key", "default"], "max": ["key", "default"], "sum": ["start"],
            "enumerate": ["start"], "zip": ["strict"]}

KEYS = ["len", "int", "str", "abs", "sum", "min", "max", "tuple"]

WALKED = ["zip", "enumerate", "reversed", "range", "items", "keys", "values"]

WALKERS = ["list", "tuple", "dict", "sorted", "sum", "any", "all", "enumerate", "zip"]

READERS = ["len", "list", "dict", "tuple", "sorted", "min", "max", "sum", "any", "all", "enumerate", "zip", "reversed"]

READING = ["get", "items", "keys", "values", "index", "count"]

# Values of an object may be called so, though Python's own values have methods of these names.
FREE_VALUES = set("count index title find get join lower upper split strip copy add".split())

TAKEN = set().union(*[dir(kind) for kind in (str, int, list, tuple, dict, set, frozenset, bytes)])

PLAIN_VALUES = (ast.Constant, ast.List, ast.Tuple, ast.Dict, ast.Name, ast.Load)

TWO_UNDERSCORES = ["__init__", "__eq__", "__repr__", "__str__", "__len__"]


def files():
    return sorted(PACKAGE.glob("*.py"))


def tree_of(path):
    return ast.parse(path.read_text(encoding="ascii"))


def nodes():
    for path in files():
        for node in ast.walk(tree_of(path)):
            yield node, f"{path.name}:{getattr(node, 'lineno', 0)}"


def nodes_within():
    """Each node with the one around it."""
    for path in files():
        for around in ast.walk(tree_of(path)):
            for node in ast.iter_child_nodes(around):
                yield node, around, f"{path.name}:{getattr(node, 'lineno', 0)}"


def called(node):
    """The name of the function or method that a call calls, or None."""
    if not isinstance(node, ast.Call):
        return None
    return getattr(node.func, "id", getattr(node.func, "attr", None))


def is_walked(node, around):
    return isinstance(around, (ast.For, ast.comprehension)) and around.iter is node


def kept_names(tree):
    """The names of the lists and dicts of a file's top."""
    return [node.targets[0].id for node in tree.body
            if isinstance(node, ast.Assign) and isinstance(node.value, (ast.List, ast.Dict))]


def bound_names(tree):
    """The names that a file's top binds by itself."""
    names = []
    for node in tree.body:
        if isinstance(node, (ast.FunctionDef, ast.ClassDef)):
            names.append(node.name)
        elif isinstance(node, ast.Assign):
            names.append(node.targets[0].id)
    return names


def drawn_from(tree):
    return [node for node in tree.body if isinstance(node, ast.ImportFrom)]


def top_names(tree):
    """All names of a file's top, those that are drawn from other files too."""
    names = bound_names(tree)
    for node in drawn_from(tree):
        names.extend([alias.asname or alias.name for alias in node.names])
    return names


def local_names(function):
    names = [argument.arg for argument in function.args.args]
    for node in ast.walk(function):
        if isinstance(node, ast.Name) and isinstance(node.ctx, ast.Store):
            names.append(node.id)
    return names


class TestFiles(unittest.TestCase):
    def test_only_plain_files_lie_there(self):
        names = [path.name for path in PACKAGE.iterdir() if path.name != "__pycache__"]
        self.assertIn("__init__.py", names)
        for name in names:
            self.assertRegex(name, r"\A[a-z0-9_]+\.py\Z")

    def test_signs_words_and_lines(self):
        for path in files():
            text = path.read_text(encoding="utf-8")
            self.assertRegex(text, r"\A[ -~\n]*\Z", path.name)
            self.assertEqual(NO_WORDS.intersection(re.findall(r"\w+", text)), set(), path.name)
            self.assertNotRegex(text, "dataclass|overload|contextmanager", path.name)
            self.assertLessEqual(len(text.splitlines()), 400, path.name)
            self.assertLessEqual(max(len(line) for line in text.splitlines()), 120, path.name)

    def test_imports_name_the_file_that_defines(self):
        for path in files():
            for node in drawn_from(tree_of(path)):
                self.assertEqual(node.level, 0)
                self.assertRegex(node.module, r"\Afourfold\.[a-z]+\Z", path.name)
                source = PACKAGE / (node.module.partition(".")[2] + ".py")
                for alias in node.names:
                    self.assertIn(alias.name, bound_names(tree_of(source)), path.name)

    def test_no_two_files_draw_from_one_another(self):
        draws = {path.stem: {node.module.partition(".")[2] for node in drawn_from(tree_of(path))} for path in files()}
        while draws:
            free = [name for name, sources in draws.items() if not sources & draws.keys()]
            self.assertTrue(free, draws)
            for name in free:
                draws.pop(name)

    def test_each_name_is_bound_once_at_the_top(self):
        for path in files():
            names = top_names(tree_of(path))
            self.assertEqual(len(names), len(set(names)), path.name)

    def test_what_stands_at_the_top(self):
        for path in files():
            tree = tree_of(path)
            self.assertIsNotNone(ast.get_docstring(tree), path.name)
            above = []
            for node in tree.body[1:]:
                place = f"{path.name}:{node.lineno}"
                self.assertIsInstance(node, (ast.ImportFrom, ast.FunctionDef, ast.ClassDef, ast.Assign), place)
                if isinstance(node, ast.Assign):
                    for part in ast.walk(node.value):
                        self.assertIsInstance(part, PLAIN_VALUES, place)
                        self.assertTrue(not isinstance(part, ast.Name) or part.id in above, place)
                elif isinstance(node, ast.FunctionDef):
                    above.append(node.name)

    def test_all_imports_are_used(self):
        for path in files():
            used = {node.id for node in ast.walk(tree_of(path)) if isinstance(node, ast.Name)}
            for node in drawn_from(tree_of(path)):
                for alias in node.names:
                    self.assertIn(alias.asname or alias.name, used, path.name)


class TestCode(unittest.TestCase):
    def test_statements(self):
        for node, place in nodes():
            if isinstance(node, ast.stmt):
                self.assertIsInstance(node, STATEMENTS, place)
            if isinstance(node, ast.Assign):
                self.assertEqual(len(node.targets), 1, place)
                self.assertNotIsInstance(node.targets[0], (ast.Tuple, ast.List), place)
            if isinstance(node, (ast.For, ast.While)):
                self.assertEqual(node.orelse, [], place)
            if isinstance(node, ast.Try):
                self.assertEqual(node.finalbody, [], place)
                self.assertTrue(all(handler.type is not None for handler in node.handlers), place)

    def test_lone_expressions_are_calls(self):
        for path in files():
            tree = tree_of(path)
            for node in ast.walk(tree):
                if isinstance(node, ast.Expr) and node != tree.body[0]:
                    self.assertIsInstance(node.value, ast.Call, f"{path.name}:{node.lineno}")

    def test_functions(self):
        for node, place in nodes():
            if isinstance(node, ast.FunctionDef):
                self.assertLessEqual(node.end_lineno - node.lineno + 1, 40, place)
                self.assertEqual(node.decorator_list, [], place)
                self.assertIsNone(node.args.vararg or node.args.kwarg, place)
                self.assertEqual(node.args.kwonlyargs + node.args.posonlyargs, [], place)
            if isinstance(node, ast.ClassDef):
                self.assertEqual(node.decorator_list + node.keywords, [], place)
                self.assertLessEqual(len(node.bases), 1, place)

    def test_expressions(self):
        for node, place in nodes():
            self.assertNotIsInstance(node, NO_EXPRESSIONS, place)
            if isinstance(node, ast.ListComp):
                self.assertEqual(len(node.generators), 1, place)
                self.assertLessEqual(len(node.generators[0].ifs), 1, place)
            if isinstance(node, ast.Constant):
                self.assertNotIsInstance(node.value, (float, bytes, complex), place)
                self.assertFalse(isinstance(node.value, str) and "%" in node.value, place)
            if isinstance(node, ast.BinOp) and isinstance(node.op, ast.Pow):
                self.assertIn(getattr(node.right, "value", None), range(65), place)
            if isinstance(node, ast.Compare) and isinstance(node.ops[0], (ast.Is, ast.IsNot)):
                self.assertIn(node.comparators[0].value, (None, True, False), place)

    def test_names(self):
        for path in files():
            tree = tree_of(path)
            known = set(top_names(tree)) | OWN_NAMES
            for node in ast.walk(tree):
                if isinstance(node, (ast.FunctionDef, ast.Lambda)):
                    known.update(local_names(node))
            for node in ast.walk(tree):
                if isinstance(node, ast.Name):
                    place = f"{path.name}:{node.lineno}"
                    self.assertIn(node.id, known, place)
                    self.assertRegex(node.id, r"\A[A-Za-z]\w*\Z", place)
                    self.assertNotIn(node.id, NO_NAMES, place)

    def test_locals_are_called_like_nothing_else(self):
        for path in files():
            tree = tree_of(path)
            taken = set(top_names(tree)) | set(dir(builtins))
            for node in ast.walk(tree):
                if isinstance(node, (ast.FunctionDef, ast.Lambda)):
                    self.assertEqual(taken.intersection(local_names(node)), set(), f"{path.name}:{node.lineno}")

    def test_no_annotations(self):
        for node, place in nodes():
            if isinstance(node, ast.FunctionDef):
                self.assertIsNone(node.returns, place)
            if isinstance(node, ast.arg):
                self.assertIsNone(node.annotation, place)

    def test_keywords(self):
        for node, place in nodes():
            if isinstance(node, ast.Call) and called(node) in OWN_NAMES | METHODS:
                for keyword in node.keywords:
                    self.assertIn(keyword.arg, KEYWORDS.get(called(node), []), place)

    def test_own_names_of_python_are_called_not_kept(self):
        for node, around, place in nodes_within():
            if not isinstance(node, ast.Name) or node.id not in OWN_NAMES:
                continue
            if isinstance(getattr(builtins, node.id), type) and issubclass(getattr(builtins, node.id), Exception):
                continue
            if isinstance(around, ast.keyword):
                self.assertIn(node.id, KEYS, place)
            elif isinstance(around, ast.Call) and around.func is not node:
                self.assertEqual((called(around), around.args[1]), ("isinstance", node), place)
            elif isinstance(around, ast.Tuple):
                self.assertIn(node.id, ("int", "str", "bool", "list", "tuple", "dict"), place)
            else:
                self.assertIsInstance(around, ast.Call, place)

    def test_walked_at_once(self):
        for node, around, place in nodes_within():
            if called(node) not in WALKED or is_walked(node, around):
                continue
            if called(around) in ("min", "max"):
                self.assertEqual(around.args, [node], place)
            else:
                self.assertIn(called(around), WALKERS + ["join"], place)
                self.assertIs(around.args[0], node, place)

    def test_no_set_is_kept_or_walked(self):
        for node, around, place in nodes_within():
            if isinstance(node, ast.Set) or called(node) in ("set", "frozenset"):
                self.assertTrue(isinstance(around, (ast.Compare, ast.BinOp)) or called(around) in ("sorted", "len"), place)

    def test_lists_and_dicts_of_the_top_are_only_read(self):
        for path in files():
            tree = tree_of(path)
            kept = kept_names(tree)
            for statement in tree.body:
                if isinstance(statement, ast.Assign):
                    inner = [node for node in ast.walk(statement.value) if node is not statement.value]
                    self.assertFalse([node for node in inner if isinstance(node, (ast.List, ast.Dict, ast.Set))], path.name)
            for around in ast.walk(tree):
                for node in ast.iter_child_nodes(around):
                    if isinstance(node, ast.Name) and isinstance(node.ctx, ast.Load) and node.id in kept:
                        place = f"{path.name}:{node.lineno}"
                        if isinstance(around, ast.Subscript):
                            self.assertIsInstance(around.ctx, ast.Load, place)
                        elif isinstance(around, ast.Attribute):
                            self.assertIn(around.attr, READING, place)
                        elif isinstance(around, ast.Call):
                            self.assertIn(called(around), READERS, place)
                        else:
                            self.assertTrue(isinstance(around, ast.Compare) or is_walked(node, around), place)

    def test_methods(self):
        own = set()
        for node, place in nodes():
            if isinstance(node, ast.ClassDef):
                own.update(part.name for part in node.body if isinstance(part, ast.FunctionDef))
        for node, place in nodes():
            if isinstance(node, ast.Call) and isinstance(node.func, ast.Attribute):
                self.assertIn(node.func.attr, METHODS | own | set(TWO_UNDERSCORES), place)
            if isinstance(node, ast.Attribute):
                self.assertNotIn(node.attr, ("register", "mro", "elements", "open", "input", "format", "format_map"), place)


def classes():
    for path in files():
        for node in ast.walk(tree_of(path)):
            if isinstance(node, ast.ClassDef):
                yield node, f"{path.name}:{node.lineno}"


def methods_of(node):
    return [part.name for part in node.body if isinstance(part, ast.FunctionDef)]


def values_given():
    """The names of all values that are given to an object somewhere."""
    return {node.attr for node, place in nodes() if isinstance(node, ast.Attribute) and isinstance(node.ctx, ast.Store)}


class TestClasses(unittest.TestCase):
    def test_they_stand_at_the_top_and_hold_methods_alone(self):
        tops = [node for path in files() for node in tree_of(path).body if isinstance(node, ast.ClassDef)]
        self.assertEqual(len(tops), len(list(classes())))
        for node, place in classes():
            for part in node.body:
                self.assertIsInstance(part, (ast.FunctionDef, ast.Pass), place)
            self.assertEqual(len(methods_of(node)), len(set(methods_of(node))), place)

    def test_no_name_is_both_a_method_and_a_value(self):
        for node, place in classes():
            self.assertEqual(values_given().intersection(methods_of(node)), set(), place)

    def test_methods_and_values_are_called_like_none_of_pythons_own(self):
        for node, place in classes():
            for name in methods_of(node):
                free = name not in TAKEN or name in METHODS or name in ("add", "discard")
                self.assertTrue(free or name in TWO_UNDERSCORES, place)
        for name in values_given():
            self.assertTrue(name not in TAKEN or name in FREE_VALUES, name)

    def test_values_are_given_through_local_names(self):
        for path in files():
            tops = top_names(tree_of(path))
            for node in ast.walk(tree_of(path)):
                if isinstance(node, ast.Attribute) and isinstance(node.ctx, ast.Store):
                    self.assertIsInstance(node.value, ast.Name, f"{path.name}:{node.lineno}")
                    self.assertNotIn(node.value.id, tops, f"{path.name}:{node.lineno}")

    def test_what_makes_one_gives_back_nothing(self):
        for node, place in classes():
            for part in node.body:
                if isinstance(part, ast.FunctionDef) and part.name == "__init__":
                    self.assertFalse([line for line in ast.walk(part) if isinstance(line, ast.Return)], place)

    def test_they_are_not_kept_or_handed_on(self):
        names = {node.name for node, place in classes()}
        for node, around, place in nodes_within():
            if isinstance(node, ast.Name) and node.id in names:
                stands = isinstance(around, (ast.ClassDef, ast.ExceptHandler))
                is_called = isinstance(around, ast.Call) and around.func is node
                is_asked = called(around) == "isinstance" and around.args[1] is node
                self.assertTrue(stands or is_called or is_asked, place)
