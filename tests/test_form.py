"""The form of the package's files, as far as a walk over their trees can see it."""

import ast
import builtins
import pathlib
import re
import unittest

PACKAGE = pathlib.Path(__file__).resolve().parent.parent / "wishcount"

STATEMENTS = (
    ast.Assign, ast.AugAssign, ast.If, ast.While, ast.For, ast.Return, ast.Break, ast.Continue, ast.Pass, ast.Raise,
    ast.Try, ast.Expr, ast.FunctionDef, ast.ClassDef, ast.ImportFrom,
)
EXPRESSIONS = (
    ast.Constant, ast.List, ast.Tuple, ast.Dict, ast.BinOp, ast.UnaryOp, ast.BoolOp, ast.Compare, ast.IfExp, ast.Call,
    ast.Attribute, ast.Subscript, ast.Slice, ast.ListComp, ast.JoinedStr, ast.FormattedValue, ast.Name, ast.Lambda,
)
BUILT_IN = set(
    "len range enumerate zip min max sum abs sorted reversed int str bool list tuple dict set isinstance ord repr any "
    "all divmod ValueError KeyError IndexError LookupError ZeroDivisionError StopIteration Exception".split()
)
METHODS = set(
    "append clear copy count endswith extend find get index insert isalnum isalpha isdigit islower isspace isupper "
    "items join keys ljust lower lstrip partition pop remove replace reverse rfind rjust rpartition rsplit rstrip "
    "setdefault split splitlines startswith strip update upper values zfill bit_length".split()
)
DUNDERS = set("__init__ __eq__ __repr__ __str__ __len__".split())
WALKED = set("zip enumerate reversed range items keys values".split())
WALKERS = set("list tuple dict sorted sum any all enumerate zip min max join".split())
KEYWORDS = {
    "sorted": ("key", "reverse"), "min": ("key", "default"), "max": ("key", "default"), "sum": ("start",),
    "enumerate": ("start",), "zip": ("strict",),
}
PYTHONS_OWN = set().union(*[dir(kind) for kind in (str, int, list, tuple, dict, set, bytes)])
OWN_METHODS = METHODS | DUNDERS | {"add", "discard"}
OWN_VALUES = set("count index title find get join lower upper split strip copy add".split())
NOT_NAMES = set(
    "register mro elements open input version_info with_traceback add_note attrgetter breakpoint builtins compile "
    "copyright credits delattr dir eval exec exit gc getattr globals hasattr help id importlib license locals "
    "methodcaller os quit setattr super type vars sys format format_map args".split()
)
WORDS = re.compile(
    r"\b(type|typing|typing_extensions|enum|Enum|IntEnum|StrEnum|Flag|IntFlag|Generic|Protocol|ABC|ABCMeta|namedtuple"
    r"|NamedTuple|TypedDict|TYPE_CHECKING|abstractmethod)\b|dataclass|overload|contextmanager"
)


def sources():
    # Compiled files are Python's own leavings, not the package's.
    return sorted(path for path in PACKAGE.rglob("*") if "__pycache__" not in path.parts)


def trees():
    return [(path.name, ast.parse(path.read_text(encoding="utf-8"))) for path in sources()]


def nodes(kind):
    return [(name, node) for name, tree in trees() for node in ast.walk(tree) if isinstance(node, kind)]


def own_names(tree):
    names = set()
    for node in ast.walk(tree):
        if isinstance(node, (ast.FunctionDef, ast.ClassDef)):
            names.add(node.name)
        elif isinstance(node, ast.arg):
            names.add(node.arg)
        elif isinstance(node, ast.Name) and isinstance(node.ctx, ast.Store):
            names.add(node.id)
        elif isinstance(node, ast.alias):
            names.add(node.asname or node.name)
        elif isinstance(node, ast.ExceptHandler) and node.name:
            names.add(node.name)
    return names


def called(node):
    return node.func.id if isinstance(node.func, ast.Name) else getattr(node.func, "attr", None)


def imports():
    drawn = {path.stem: [] for path in sources()}
    for name, node in nodes(ast.ImportFrom):
        drawn[name.removesuffix(".py")].append(node.module.removeprefix("wishcount."))
    return drawn


def drawn_from(drawn, module, seen):
    for other in drawn[module]:
        if other not in seen:
            seen.add(other)
            drawn_from(drawn, other, seen)
    return seen


def own_methods_and_values():
    methods = {part.name for name, node in nodes(ast.ClassDef) for part in node.body
               if isinstance(part, ast.FunctionDef)}
    values = {node.attr for name, node in nodes(ast.Attribute) if isinstance(node.ctx, ast.Store)}
    return methods, values


class Files(unittest.TestCase):
    def test_plain_lower_case_python_files_alone(self):
        self.assertIn(PACKAGE / "__init__.py", sources())
        for path in sources():
            self.assertRegex(path.name, r"^([a-z][a-z0-9_]*|__init__)\.py$")

    def test_signs_words_and_size(self):
        for path in sources():
            text = path.read_text(encoding="utf-8")
            self.assertRegex(text, r"\A[ -~\n]*\Z", path.name)
            self.assertIsNone(WORDS.search(text), path.name)
            lines = text.splitlines()
            self.assertLessEqual(len(lines), 400, path.name)
            self.assertLessEqual(max([len(line) for line in lines]), 120, path.name)

    def test_functions_have_at_most_40_lines(self):
        for name, node in nodes(ast.FunctionDef):
            self.assertLessEqual(node.end_lineno - node.lineno + 1, 40, (name, node.name))


class Trees(unittest.TestCase):
    def test_imports_are_the_packages_own(self):
        for name, node in nodes(ast.ImportFrom):
            self.assertEqual(node.level, 0, name)
            self.assertRegex(node.module, r"^wishcount\.[a-z]", name)
            self.assertNotIn("*", [alias.name for alias in node.names], name)

    def test_statements(self):
        for name, node in nodes(ast.stmt):
            self.assertIsInstance(node, STATEMENTS, (name, node.lineno))
            if isinstance(node, (ast.For, ast.While)):
                self.assertEqual(node.orelse, [], (name, node.lineno))
            if isinstance(node, ast.Assign):
                self.assertEqual(len(node.targets), 1, (name, node.lineno))
            if isinstance(node, ast.Try):
                self.assertEqual(node.finalbody, [], (name, node.lineno))

    def test_a_bare_expression_is_a_call_or_the_files_docstring(self):
        for name, tree in trees():
            for node in ast.walk(tree):
                if isinstance(node, ast.Expr) and node != tree.body[0]:
                    self.assertIsInstance(node.value, ast.Call, (name, node.lineno))

    def test_expressions(self):
        for name, node in nodes(ast.expr):
            self.assertIsInstance(node, EXPRESSIONS, (name, node.lineno))
            if isinstance(node, ast.Constant):
                self.assertIsInstance(node.value, (int, str, type(None)), (name, node.lineno))
            if isinstance(node, ast.BinOp):
                self.assertNotIsInstance(node.op, ast.Div, (name, node.lineno))
            if isinstance(node, ast.ListComp):
                self.assertEqual(len(node.generators), 1, (name, node.lineno))
                self.assertLessEqual(len(node.generators[0].ifs), 1, (name, node.lineno))

    def test_is_stands_beside_none_and_truths_alone(self):
        for name, node in nodes(ast.Compare):
            for op, right in zip(node.ops, node.comparators):
                if isinstance(op, (ast.Is, ast.IsNot)):
                    self.assertIn(ast.unparse(right), ("None", "True", "False"), (name, node.lineno))

    def test_names(self):
        for name, tree in trees():
            own = own_names(tree)
            for word in own:
                self.assertTrue(word in DUNDERS or re.fullmatch(r"[A-Za-z][A-Za-z0-9_]*", word), (name, word))
                self.assertFalse(word in BUILT_IN or word in dir(builtins), (name, word))
            for node in ast.walk(tree):
                if isinstance(node, ast.Name):
                    self.assertIn(node.id, own | BUILT_IN, (name, node.lineno))

    def test_methods(self):
        own = set()
        for name, node in nodes(ast.ClassDef):
            self.assertLessEqual(len(node.bases), 1, (name, node.name))
            own |= {part.name for part in node.body if isinstance(part, ast.FunctionDef)}
        for name, node in nodes(ast.Call):
            if isinstance(node.func, ast.Attribute):
                self.assertIn(node.func.attr, own | METHODS | {"__init__"}, (name, node.lineno))

    def test_plain_parameters_and_no_decorator(self):
        for name, node in nodes((ast.FunctionDef, ast.ClassDef)):
            self.assertEqual(node.decorator_list, [], (name, node.name))
        for name, node in nodes(ast.arguments):
            self.assertEqual((node.vararg, node.kwarg, node.kwonlyargs, node.posonlyargs), (None, None, [], []), name)

    def test_the_top_of_a_module(self):
        for name, tree in trees():
            self.assertIsNotNone(ast.get_docstring(tree), name)
            for node in tree.body[1:]:
                self.assertIsInstance(node, (ast.ImportFrom, ast.FunctionDef, ast.ClassDef, ast.Assign), name)
            bound = [node.name for node in tree.body if isinstance(node, (ast.FunctionDef, ast.ClassDef))]
            bound += [target.id for node in tree.body if isinstance(node, ast.Assign) for target in node.targets]
            bound += [alias.name for node in tree.body if isinstance(node, ast.ImportFrom) for alias in node.names]
            self.assertEqual(len(bound), len(set(bound)), name)

    def test_a_name_is_imported_from_the_file_that_defines_it(self):
        defined = {}
        for name, tree in trees():
            defined["wishcount." + name.removesuffix(".py")] = [
                node.name if isinstance(node, (ast.FunctionDef, ast.ClassDef)) else ast.unparse(node.targets[0])
                for node in tree.body if isinstance(node, (ast.FunctionDef, ast.ClassDef, ast.Assign))]
        for name, node in nodes(ast.ImportFrom):
            for alias in node.names:
                self.assertIn(alias.name, defined[node.module], (name, node.lineno))

    def test_no_two_files_draw_from_one_another(self):
        drawn = imports()
        for module in drawn:
            self.assertNotIn(module, drawn_from(drawn, module, set()))

    def test_no_local_is_called_like_a_class_or_an_import(self):
        for name, tree in trees():
            taken = {node.name for node in tree.body if isinstance(node, ast.ClassDef)}
            taken |= {alias.name for node in tree.body if isinstance(node, ast.ImportFrom) for alias in node.names}
            for node in ast.walk(tree):
                if isinstance(node, ast.arg):
                    self.assertNotIn(node.arg, taken, (name, node.lineno))
                elif isinstance(node, ast.Name) and isinstance(node.ctx, ast.Store):
                    self.assertNotIn(node.id, taken, (name, node.lineno))

    def test_own_methods_and_values(self):
        methods, values = own_methods_and_values()
        self.assertEqual(methods & values, set())
        self.assertEqual((methods & PYTHONS_OWN) - OWN_METHODS, set())
        self.assertEqual((values & PYTHONS_OWN) - OWN_VALUES, set())

    def test_names_that_are_not_used(self):
        for name, tree in trees():
            self.assertEqual(own_names(tree) & NOT_NAMES, set(), name)
        methods, values = own_methods_and_values()
        self.assertEqual((methods | values) & NOT_NAMES, set())

    def test_what_is_walked_is_walked_at_once(self):
        for name, tree in trees():
            at_once = set()
            for node in ast.walk(tree):
                if isinstance(node, (ast.For, ast.comprehension)):
                    at_once.add(node.iter)
                elif isinstance(node, ast.Call) and called(node) in WALKERS:
                    at_once |= set(node.args)
            for node in ast.walk(tree):
                if isinstance(node, ast.Call) and called(node) in WALKED:
                    self.assertIn(node, at_once, (name, node.lineno))

    def test_keywords(self):
        for name, node in nodes(ast.Call):
            for keyword in node.keywords:
                self.assertIn(keyword.arg, KEYWORDS.get(called(node), ()), (name, node.lineno))

    def test_an_error_is_made_where_it_is_raised(self):
        for name, node in nodes(ast.Raise):
            self.assertIsInstance(node.exc, ast.Call, (name, node.lineno))

    def test_init_gives_back_nothing(self):
        for name, node in nodes(ast.FunctionDef):
            if node.name == "__init__":
                self.assertEqual([part for part in ast.walk(node) if isinstance(part, ast.Return)], [], name)

    def test_no_sets_no_texts_with_a_per_cent_sign(self):
        for name, node in nodes(ast.Call):
            self.assertNotIn(called(node), ("set", "frozenset"), (name, node.lineno))
        for name, node in nodes(ast.Constant):
            self.assertFalse(isinstance(node.value, str) and "%" in node.value, (name, node.lineno))


if __name__ == "__main__":
    unittest.main()
