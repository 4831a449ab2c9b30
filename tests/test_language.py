"""The part of LANGUAGE.md that can be seen from the syntax alone, for each file of the package."""

import ast
import builtins
import pathlib
import re
import unittest

PACKAGE = pathlib.Path(__file__).resolve().parent.parent / "reusewise"

NODES = """
Module FunctionDef ClassDef arguments arg Assign AugAssign If While For Return Break Continue Pass Raise Try
ExceptHandler Expr ImportFrom alias Constant List Tuple Dict Set Name Attribute Subscript Slice Call keyword
BinOp UnaryOp BoolOp Compare IfExp ListComp comprehension Lambda JoinedStr FormattedValue Load Store
Add Sub Mult FloorDiv Mod Pow BitAnd BitOr BitXor LShift RShift Invert USub UAdd Not And Or
Eq NotEq Lt LtE Gt GtE Is IsNot In NotIn
""".split()
OWN_NAMES = """
len range enumerate zip min max sum abs sorted reversed int str bool list tuple dict set frozenset isinstance ord
repr any all divmod ValueError KeyError IndexError LookupError ZeroDivisionError ArithmeticError OverflowError
RuntimeError NotImplementedError StopIteration Exception AttributeError TypeError
""".split()
OWN_METHODS = """
append clear copy count endswith extend find get index insert isalnum isalpha isdigit islower isspace isupper items
join keys ljust lower lstrip partition pop remove replace reverse rfind rjust rpartition rsplit rstrip setdefault
split splitlines startswith strip update upper values zfill bit_length
""".split()
DOUBLE = ["__init__", "__eq__", "__repr__", "__str__", "__len__", "__all__", "__version__", "__name__"]
NOWHERE = """
type typing typing_extensions enum Enum IntEnum StrEnum Flag IntFlag Generic Protocol ABC ABCMeta namedtuple
NamedTuple TypedDict TYPE_CHECKING abstractmethod
""".split()
NOT_USED = """
register mro elements open input version_info with_traceback add_note attrgetter breakpoint builtins compile
copyright credits delattr dir eval exec exit gc getattr globals hasattr help id importlib license locals
methodcaller os quit setattr super vars sys format format_map chr print float bytes object
""".split()
MAY_BE_VALUES = "count index title find get join lower upper split strip copy add".split()
WALKED = ("zip", "enumerate", "reversed", "range")
TAKE_A_WALK = ("list", "tuple", "dict", "sorted", "sum", "any", "all", "enumerate", "zip")
CHANGING = "append clear extend insert pop remove reverse setdefault update".split()
KEYWORDS = {
    "sorted": ("key", "reverse"), "min": ("key", "default"), "max": ("key", "default"), "sum": ("start",),
    "enumerate": ("start",), "zip": ("strict",),
}
AS_THEY_STAND = ("True", "False", "None")


def files():
    return sorted(path for path in PACKAGE.rglob("*") if "__pycache__" not in path.parts)


def sources():
    return [(path.name, path.read_text("utf-8")) for path in files()]


def nodes(*kinds):
    """Each node of these kinds in the package, with its file and line."""
    for name, source in sources():
        for node in ast.walk(ast.parse(source)):
            if isinstance(node, kinds):
                yield node, f"{name}:{getattr(node, 'lineno', 0)}"


def with_parents(tree):
    """Each node below the tree's top with the one it stands in."""
    for parent in ast.walk(tree):
        for node in ast.iter_child_nodes(parent):
            yield node, parent


def called(node):
    """The plain name that a call calls, or ""."""
    return node.func.id if isinstance(node, ast.Call) and isinstance(node.func, ast.Name) else ""


def own_methods():
    return {part.name for node, _ in nodes(ast.ClassDef) for part in node.body if isinstance(part, ast.FunctionDef)}


def own_values():
    return {node.attr for node, _ in nodes(ast.Attribute) if isinstance(node.ctx, ast.Store)}


def drawn_from():
    """For each file of the package the files that it draws from."""
    drawn = {}
    for name, source in sources():
        rows = [node for node in ast.parse(source).body if isinstance(node, ast.ImportFrom)]
        drawn[name[:-3]] = [node.module.split(".")[1] for node in rows]
    return drawn


def names_bound():
    for node, where in nodes(ast.FunctionDef, ast.ClassDef):
        yield node.name, where
    for node, where in nodes(ast.arg):
        yield node.arg, where
    for node, where in nodes(ast.Name, ast.Attribute):
        if isinstance(node.ctx, ast.Store):
            yield (node.id if isinstance(node, ast.Name) else node.attr), where


class Language(unittest.TestCase):
    def none_of(self, bad):
        self.assertEqual(list(bad), [])

    def test_there_is_a_package(self):
        self.assertIn(PACKAGE / "__init__.py", files())

    def test_files_and_signs(self):
        self.none_of(path for path in files() if not re.fullmatch(r"[a-z0-9_]+\.py", path.name))
        self.none_of(name for name, source in sources() if not re.fullmatch(r"[ -~\n]*", source))

    def test_sizes(self):
        for name, source in sources():
            self.assertLessEqual(len(source.splitlines()), 400, name)
            self.none_of((name, line) for line in source.splitlines() if len(line) > 120)
        for node, where in nodes(ast.FunctionDef):
            self.assertLessEqual(node.end_lineno - node.lineno + 1, 40, where)

    def test_words_that_stand_nowhere(self):
        for name, source in sources():
            words = re.findall(r"\w+", source)
            self.none_of((name, word) for word in words if word in NOWHERE)
            self.none_of((name, word) for word in words if re.search("dataclass|overload|contextmanager", word))

    def test_syntax(self):
        self.none_of((where, node) for node, where in nodes(ast.AST) if node.__class__.__name__ not in NODES)

    def test_the_top_of_a_module(self):
        for name, source in sources():
            body = ast.parse(source).body
            self.assertIsInstance(getattr(body[0], "value", None), ast.Constant, name)
            for node in body[1:]:
                self.assertIsInstance(node, (ast.ImportFrom, ast.Assign, ast.FunctionDef, ast.ClassDef), name)
            for node in [node for node in body if isinstance(node, ast.Assign)]:
                for part in ast.walk(node.value):
                    plain = (ast.Constant, ast.List, ast.Tuple, ast.Dict, ast.Name, ast.Load, ast.UnaryOp, ast.USub)
                    self.assertIsInstance(part, plain, name)

    def test_imports_draw_from_the_file_that_defines_the_name(self):
        for node, where in nodes(ast.ImportFrom):
            self.assertRegex(node.module, r"^reusewise\.[a-z0-9_]+$", where)
            source = (PACKAGE / (node.module.split(".")[1] + ".py")).read_text("utf-8")
            for alias in node.names:
                self.assertIsNone(alias.asname, where)
                self.assertRegex(source, rf"(?m)^(def |class |){alias.name}\b", where)

    def test_statements(self):
        self.none_of(where for node, where in nodes(ast.Assign) if len(node.targets) != 1)
        self.none_of(where for node, where in nodes(ast.While, ast.For) if node.orelse)
        self.none_of(where for node, where in nodes(ast.Try) if node.finalbody)
        self.none_of(where for node, where in nodes(ast.FunctionDef, ast.ClassDef) if node.decorator_list)
        self.none_of(where for node, where in nodes(ast.arguments) if node.vararg or node.kwarg or node.kwonlyargs)
        for node, where in nodes(ast.ListComp):
            self.assertEqual((len(node.generators), len(node.generators[0].ifs) < 2), (1, True), where)

    def test_classes(self):
        for node, where in nodes(ast.ClassDef):
            self.assertLessEqual(len(node.bases), 1, where)
            self.assertEqual(node.keywords, [], where)
            self.none_of(where for part in node.body if not isinstance(part, (ast.FunctionDef, ast.Pass)))

    def test_plain_values(self):
        for node, where in nodes(ast.Constant):
            self.assertIsInstance(node.value, (int, str, bool, None.__class__), where)
            if isinstance(node.value, str):
                self.assertNotIn("%", node.value, where)

    def test_texts_put_together_have_plain_names_in_them(self):
        for node, where in nodes(ast.FormattedValue):
            self.assertIsInstance(node.value, ast.Name, where)
            self.assertIsNone(node.format_spec, where)
            self.assertIn(node.conversion, (-1, ord("r")), where)

    def test_is_stands_beside_none_true_and_false(self):
        for node, where in nodes(ast.Compare):
            for op, right in zip(node.ops, node.comparators):
                if isinstance(op, (ast.Is, ast.IsNot)):
                    self.assertIn(getattr(right, "value", 0), (None, True, False), where)

    def test_names(self):
        for name, where in names_bound():
            self.assertTrue(name in DOUBLE or re.fullmatch(r"[A-Za-z][A-Za-z0-9_]*", name), (where, name))
            self.assertNotIn(name, NOT_USED, where)
        for node, where in nodes(ast.arg, ast.Name):
            name = node.arg if isinstance(node, ast.arg) else node.id
            if isinstance(node, ast.arg) or isinstance(node.ctx, ast.Store):
                self.assertFalse(hasattr(builtins, name), (where, name))
            self.assertFalse(hasattr(builtins, name) and name not in OWN_NAMES, (where, name))
            self.assertNotIn(name, NOT_USED, where)

    def test_methods(self):
        own = own_methods()
        for node, where in nodes(ast.Call):
            if isinstance(node.func, ast.Attribute):
                self.assertIn(node.func.attr, own | set(OWN_METHODS), where)
        for name, source in sources():
            for node, parent in with_parents(ast.parse(source)):
                if isinstance(node, ast.Attribute) and node.attr in own | set(OWN_METHODS) and node.attr not in MAY_BE_VALUES:
                    self.assertTrue(isinstance(parent, ast.Call) and parent.func is node, (name, node.lineno, node.attr))

    def test_values_and_methods_are_called_like_none_of_pythons_own(self):
        pythons = {name for one in (str, int, list, dict, set, bytes, tuple) for name in vars(one)}
        self.none_of(own_values() & pythons - set(MAY_BE_VALUES))
        self.none_of(own_methods() & pythons - set(OWN_METHODS) - set(DOUBLE) - {"add", "discard"})
        for node, where in nodes(ast.ClassDef):
            methods = [part.name for part in node.body if isinstance(part, ast.FunctionDef)]
            self.assertEqual(len(methods), len(set(methods)), where)

    def test_no_name_is_a_method_and_a_value(self):
        self.assertEqual(own_methods() & own_values(), set())

    def test_errors_taken(self):
        for node, where in nodes(ast.ExceptHandler):
            self.assertIsNotNone(node.type, where)
            taken = {part.id for part in ast.walk(node.type) if isinstance(part, ast.Name)}
            pythons = {name for name in taken if hasattr(builtins, name)}
            self.assertLessEqual(pythons, {"KeyError", "ZeroDivisionError", "StopIteration"}, where)

    def test_no_two_files_draw_from_one_another(self):
        left = drawn_from()
        while left:
            last = [name for name in left if not set(left[name]) & set(left)]
            self.assertNotEqual(last, [], left)
            left = {name: left[name] for name in left if name not in last}

    def test_locals_are_called_like_no_class_import_or_other_name_of_the_top(self):
        for name, source in sources():
            tree = ast.parse(source)
            tops = [node.name for node in tree.body if isinstance(node, (ast.ClassDef, ast.FunctionDef))]
            tops += [part.id for node in tree.body if isinstance(node, ast.Assign) for part in node.targets]
            self.assertEqual(len(tops), len(set(tops)), name)
            taken = [node.name for node in tree.body if isinstance(node, ast.ClassDef)]
            taken += [part.name for node in tree.body if isinstance(node, ast.ImportFrom) for part in node.names]
            self.assertEqual(set(tops) & {part for part in taken if part not in tops}, set(), name)
            for one in [node for node in ast.walk(tree) if isinstance(node, (ast.FunctionDef, ast.Lambda))]:
                inner = [node.arg for node in ast.walk(one) if isinstance(node, ast.arg)]
                inner += [
                    node.id for node in ast.walk(one) if isinstance(node, ast.Name) and isinstance(node.ctx, ast.Store)
                ]
                self.assertEqual(set(inner) & set(taken + tops), set(), (name, one.lineno))

    def test_assignments_have_one_plain_target(self):
        for node, where in nodes(ast.Assign):
            self.assertIsInstance(node.targets[0], (ast.Name, ast.Attribute, ast.Subscript), where)

    def test_what_is_walked_is_walked_at_once(self):
        for name, source in sources():
            for node, parent in with_parents(ast.parse(source)):
                method = isinstance(node, ast.Call) and isinstance(node.func, ast.Attribute) and node.func.attr
                if called(node) not in WALKED and method not in ("items", "keys", "values"):
                    continue
                walks = isinstance(parent, (ast.For, ast.comprehension)) and parent.iter is node
                first = called(parent) in TAKE_A_WALK and parent.args[0] is node
                alone = called(parent) in ("min", "max") and parent.args == [node]
                joined = isinstance(parent, ast.Call) and getattr(parent.func, "attr", "") == "join"
                zipped = called(parent) == "zip"
                self.assertTrue(walks or first or alone or joined or zipped, (name, node.lineno))

    def test_what_a_loop_walks_is_not_changed_in_it(self):
        for loop, where in nodes(ast.For):
            walked = loop.iter
            while called(walked) in WALKED and walked.args:
                walked = walked.args[0]
            walked = ast.dump(walked)
            for node in [node for part in loop.body for node in ast.walk(part)]:
                if isinstance(node, ast.Call) and isinstance(node.func, ast.Attribute) and node.func.attr in CHANGING:
                    self.assertNotEqual(ast.dump(node.func.value), walked, where)
                if isinstance(node, ast.Subscript) and isinstance(node.ctx, ast.Store):
                    self.assertNotEqual(ast.dump(node.value).replace("Store", "Load"), walked, where)

    def test_keywords_at_pythons_own(self):
        for node, where in nodes(ast.Call):
            given = {word.arg for word in node.keywords}
            own = called(node) and not hasattr(builtins, called(node))
            self.assertTrue(own or given <= set(KEYWORDS.get(called(node), ())) or not given, where)

    def test_sets_and_names_of_pythons_own_are_called_on_the_spot(self):
        for name, source in sources():
            for node, parent in with_parents(ast.parse(source)):
                if isinstance(node, ast.Name) and hasattr(builtins, node.id) and node.id not in AS_THEY_STAND:
                    on_the_spot = isinstance(parent, ast.Call) and parent.func is node
                    asked = called(parent) == "isinstance" or isinstance(parent, ast.Tuple)
                    base = isinstance(parent, (ast.ClassDef, ast.ExceptHandler))
                    method = isinstance(parent, ast.Attribute) and parent.attr == "__init__"
                    self.assertTrue(on_the_spot or asked or base or method, (name, node.lineno, node.id))
                self.assertNotIsInstance(node, ast.Set, name)
                self.assertNotIn(called(node), ("set", "frozenset"), name)

    def test_powers_have_a_written_exponent(self):
        for node, where in nodes(ast.BinOp):
            if isinstance(node.op, ast.Pow):
                self.assertIn(getattr(node.right, "value", None), range(65), where)

    def test_first_methods_give_nothing_back(self):
        for node, where in nodes(ast.FunctionDef):
            if node.name == "__init__":
                self.none_of(where for part in ast.walk(node) if isinstance(part, ast.Return))

    def test_lists_and_dicts_of_the_top_hold_none_themselves(self):
        for name, source in sources():
            for node in [node for node in ast.parse(source).body if isinstance(node, ast.Assign)]:
                inner = [part for part in ast.walk(node.value) if part is not node.value]
                self.none_of((name, part) for part in inner if isinstance(part, (ast.List, ast.Dict)))


if __name__ == "__main__":
    unittest.main()
