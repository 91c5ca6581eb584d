"""The rules of ../shared/LANGUAGE.md that can be read off the code of the package."""

import ast
import builtins
import pathlib
import re
import unittest

FOLDER = pathlib.Path(__file__).resolve().parent.parent / "cupweb"

BUILTINS = set(
    "len range enumerate zip min max sum abs sorted reversed int str bool bytes list tuple dict set frozenset "
    "isinstance ord repr any all divmod Exception ValueError TypeError KeyError IndexError LookupError "
    "ZeroDivisionError ArithmeticError OverflowError RuntimeError NotImplementedError super property "
    "staticmethod classmethod".split()
)
DOUBLE = set("__init__ __eq__ __repr__ __str__ __len__ __enter__ __exit__".split())
METHODS = set(
    "append clear copy count endswith extend find get index insert isalnum isalpha isdigit islower isspace isupper "
    "items join keys ljust lower lstrip partition pop remove replace reverse rfind rjust rpartition rsplit rstrip "
    "setdefault split splitlines startswith strip update upper values zfill bit_length title capitalize swapcase "
    "casefold center expandtabs removeprefix removesuffix rindex isascii isdecimal isnumeric istitle isidentifier "
    "isprintable translate sort add discard".split()
)
BARRED_NAMES = set(
    "register mro elements open input version_info with_traceback add_note attrgetter breakpoint builtins compile "
    "copyright credits delattr dir eval exec exit gc getattr globals hasattr help id importlib license locals "
    "methodcaller os quit setattr type vars sys chr print".split()
)
BARRED_WORDS = re.compile(
    r"\b(type|typing|typing_extensions|enum|Enum|IntEnum|StrEnum|Flag|IntFlag|Generic|Protocol|ABC|ABCMeta|namedtuple"
    r"|NamedTuple|TypedDict|TYPE_CHECKING|abstractmethod)\b|dataclass|overload|contextmanager"
)
BARRED_NODES = (
    ast.Global, ast.AsyncFunctionDef, ast.AsyncFor, ast.AsyncWith, ast.Await, ast.NamedExpr, ast.Div, ast.MatMult,
    ast.Import,
)
MODULE_LEVEL = (ast.ImportFrom, ast.FunctionDef, ast.ClassDef, ast.Assign, ast.Expr)


def sources():
    return sorted(FOLDER.glob("*.py"))


def trees():
    return {path.stem: ast.parse(path.read_text(encoding="utf-8")) for path in sources()}


def functions(tree):
    return [node for node in ast.walk(tree) if isinstance(node, ast.FunctionDef)]


def bound_names(tree):
    """All names that a file binds, anywhere."""
    told = set()
    for node in ast.walk(tree):
        if isinstance(node, ast.Name) and not isinstance(node.ctx, ast.Load):
            told.add(node.id)
        elif isinstance(node, (ast.FunctionDef, ast.ClassDef)):
            told.add(node.name)
        elif isinstance(node, ast.arg):
            told.add(node.arg)
        elif isinstance(node, ast.alias):
            told.add(node.asname or node.name)
        elif isinstance(node, ast.ExceptHandler) and node.name:
            told.add(node.name)
        elif isinstance(node, (ast.MatchAs, ast.MatchStar)) and node.name:
            told.add(node.name)
    return told


def module_names(tree):
    """The names that a file defines at module level, imports left out."""
    told = []
    for node in tree.body:
        if isinstance(node, (ast.FunctionDef, ast.ClassDef)):
            told.append(node.name)
        elif isinstance(node, ast.Assign):
            told.extend(target.id for target in node.targets)
    return told


def class_methods(tree):
    told = set()
    for node in ast.walk(tree):
        if isinstance(node, ast.ClassDef):
            told.update(part.name for part in node.body if isinstance(part, ast.FunctionDef))
    return told


def stored_attributes(tree):
    return {
        node.attr for node in ast.walk(tree)
        if isinstance(node, ast.Attribute) and isinstance(node.ctx, ast.Store)
    }


class FilesTest(unittest.TestCase):
    def test_the_folder_has_plain_files_alone(self):
        for path in FOLDER.iterdir():
            if path.name != "__pycache__":
                self.assertRegex(path.name, r"^([a-z][a-z0-9_]*|__init__|__main__)\.py$")
                self.assertNotRegex(path.name, r"^(law_|test|site|conftest|usercustomize)")
                self.assertNotIn(path.stem, dir(builtins))
        self.assertTrue((FOLDER / "__init__.py").exists())

    def test_lengths_and_signs(self):
        for path in sources():
            text = path.read_bytes().decode("utf-8")
            self.assertEqual(re.findall(r"[^ -~\n]", text), [], path.name)
            self.assertIsNone(BARRED_WORDS.search(text), path.name)
            lines = text.split("\n")
            self.assertLessEqual(len(lines), 401, path.name)
            self.assertLessEqual(max(map(len, lines)), 120, path.name)
        for name, tree in trees().items():
            for node in functions(tree):
                self.assertLessEqual(node.end_lineno - node.lineno + 1, 40, (name, node.name))

    def test_no_sign_for_hundredths_and_no_float_is_written(self):
        for name, tree in trees().items():
            for node in ast.walk(tree):
                if isinstance(node, ast.Constant):
                    self.assertNotIsInstance(node.value, (float, complex), name)
                    if isinstance(node.value, str):
                        self.assertNotIn("%", node.value, name)


class ModulesTest(unittest.TestCase):
    def test_module_level(self):
        for name, tree in trees().items():
            for node in tree.body:
                self.assertIsInstance(node, MODULE_LEVEL, name)
                if isinstance(node, ast.Expr):
                    self.assertIsInstance(node.value, ast.Constant, name)
            bound = module_names(tree)
            for node in ast.walk(tree):
                if isinstance(node, ast.ImportFrom):
                    bound.extend(alias.asname or alias.name for alias in node.names)
            self.assertEqual(len(bound), len(set(bound)), name)

    def test_values_at_module_level_are_plain(self):
        for name, tree in trees().items():
            above = set()
            for node in tree.body:
                if isinstance(node, ast.FunctionDef):
                    above.add(node.name)
                if isinstance(node, ast.Assign):
                    for part in ast.walk(node.value):
                        self.assertIsInstance(part, (ast.Constant, ast.Tuple, ast.List, ast.Dict, ast.Name, ast.Load), name)
                        if isinstance(part, ast.Name):
                            self.assertIn(part.id, above, name)
                        if isinstance(part, (ast.List, ast.Dict)):
                            self.assertIs(part, node.value, name)

    def test_lists_and_dicts_at_module_level_are_only_read(self):
        held = {
            target.id for tree in trees().values() for node in tree.body
            if isinstance(node, ast.Assign) and isinstance(node.value, (ast.List, ast.Dict)) for target in node.targets
        }
        for name, tree in trees().items():
            read = set()
            for node in ast.walk(tree):
                if isinstance(node, ast.Subscript) and isinstance(node.ctx, ast.Load):
                    read.add(node.value)
                elif isinstance(node, ast.Attribute) and node.attr == "get":
                    read.add(node.value)
                elif isinstance(node, ast.Compare) and isinstance(node.ops[0], (ast.In, ast.NotIn)):
                    read.update(node.comparators)
            for node in ast.walk(tree):
                if isinstance(node, ast.Name) and isinstance(node.ctx, ast.Load) and node.id in held:
                    self.assertIn(node, read, (name, node.id))

    def test_imports_name_the_file_that_defines_the_name(self):
        all_trees = trees()
        for name, tree in all_trees.items():
            for node in ast.walk(tree):
                if isinstance(node, ast.ImportFrom):
                    self.assertEqual(node.level, 0, name)
                    package, _, module = node.module.partition(".")
                    self.assertEqual(package, "cupweb", name)
                    for alias in node.names:
                        self.assertIn(alias.name, module_names(all_trees[module]), name)

    def test_no_two_files_import_from_each_other(self):
        left = {
            name: {node.module.partition(".")[2] for node in ast.walk(tree) if isinstance(node, ast.ImportFrom)}
            for name, tree in trees().items()
        }
        while left:
            ready = [name for name in left if not left[name] & set(left)]
            self.assertTrue(ready, left)
            left = {name: left[name] for name in left if name not in ready}


class NamesTest(unittest.TestCase):
    def test_names_are_plain_and_no_builtin_is_given_another_meaning(self):
        for name, tree in trees().items():
            methods = class_methods(tree)
            for word in bound_names(tree):
                if word in DOUBLE:
                    continue
                self.assertRegex(word, r"^[A-Za-z][A-Za-z0-9_]*$", name)
                self.assertNotIn(word, BARRED_NAMES, name)
                if word not in methods:
                    self.assertNotIn(word, dir(builtins), name)

    def test_only_the_told_builtins_are_used(self):
        for name, tree in trees().items():
            known = bound_names(tree) | BUILTINS
            for node in ast.walk(tree):
                if isinstance(node, ast.Name) and isinstance(node.ctx, ast.Load):
                    self.assertIn(node.id, known, name)

    def test_no_local_name_is_that_of_a_class_or_an_import(self):
        for name, tree in trees().items():
            outer = {node.name for node in ast.walk(tree) if isinstance(node, ast.ClassDef)}
            for node in ast.walk(tree):
                if isinstance(node, ast.ImportFrom):
                    outer.update(alias.asname or alias.name for alias in node.names)
            for function in functions(tree):
                inner = bound_names(ast.Module(body=function.body, type_ignores=[]))
                inner.update(part.arg for part in ast.walk(function.args) if isinstance(part, ast.arg))
                self.assertEqual(inner & outer, set(), (name, function.name))

    def test_no_name_is_a_method_and_an_attribute(self):
        all_trees = trees().values()
        methods = set().union(*map(class_methods, all_trees))
        stored = set().union(*map(stored_attributes, all_trees))
        self.assertEqual(methods & stored, set())

    def test_attributes_that_are_read_are_known(self):
        all_trees = trees()
        known = METHODS.union(*map(class_methods, all_trees.values()))
        known.update(*map(stored_attributes, all_trees.values()))
        for name, tree in all_trees.items():
            for node in ast.walk(tree):
                if isinstance(node, ast.Attribute):
                    self.assertIn(node.attr, known, name)


class StatementsTest(unittest.TestCase):
    def test_barred_statements_and_signs(self):
        for name, tree in trees().items():
            for node in ast.walk(tree):
                self.assertNotIsInstance(node, BARRED_NODES, name)
                if isinstance(node, ast.FunctionDef):
                    self.assertEqual(node.args.posonlyargs, [], name)
                    if node.name.startswith("_"):
                        self.assertIn(node.name, DOUBLE, name)
                if isinstance(node, ast.ClassDef):
                    self.assertEqual(node.decorator_list, [], name)
                if isinstance(node, ast.ExceptHandler):
                    self.assertIsNotNone(node.type, name)

    def test_is_stands_with_none_true_and_false_alone(self):
        for name, tree in trees().items():
            for node in ast.walk(tree):
                if isinstance(node, ast.Compare):
                    for sign, side in zip(node.ops, node.comparators):
                        if isinstance(sign, (ast.Is, ast.IsNot)):
                            self.assertIsInstance(side, ast.Constant, name)
                            self.assertIn(side.value, (None, True, False), name)

    def test_powers_have_a_plain_exponent(self):
        for name, tree in trees().items():
            for node in ast.walk(tree):
                if isinstance(node, ast.BinOp) and isinstance(node.op, ast.Pow):
                    self.assertIsInstance(node.right, ast.Constant, name)

    def test_classes_of_webs_have_eq_so_no_generator_expression_is_summed(self):
        for name, tree in trees().items():
            for node in ast.walk(tree):
                if isinstance(node, ast.Call) and isinstance(node.func, ast.Name):
                    if node.func.id in ("any", "all", "min", "max", "sum", "sorted"):
                        for part in node.args:
                            self.assertNotIsInstance(part, ast.GeneratorExp, name)


def is_call_of(node, *names):
    return isinstance(node, ast.Call) and isinstance(node.func, ast.Name) and node.func.id in names


def is_text(node):
    """True where an expression is a text, as __repr__ and __str__ must return it."""
    if isinstance(node, ast.Constant):
        return isinstance(node.value, str)
    if isinstance(node, ast.JoinedStr) or is_call_of(node, "str", "repr"):
        return True
    joins = isinstance(node, ast.Call) and isinstance(node.func, ast.Attribute) and node.func.attr == "join"
    return joins and isinstance(node.func.value, ast.Constant)


def is_count(node):
    """True where an expression is a count, as __len__ must return it."""
    return is_call_of(node, "len") or (isinstance(node, ast.Constant) and isinstance(node.value, int))


class DoubleTest(unittest.TestCase):
    def doubles(self, *names):
        """(file, function) of the double-underscore methods of these names."""
        return [(name, node) for name, tree in trees().items() for node in functions(tree) if node.name in names]

    def test_returns(self):
        for names, right in ((("__repr__", "__str__"), is_text), (("__len__",), is_count)):
            for name, function in self.doubles(*names):
                self.assertIsInstance(function.body[-1], ast.Return, (name, function.name))
                for node in ast.walk(function):
                    if isinstance(node, ast.Return):
                        self.assertTrue(right(node.value), (name, function.name))

    def test_they_assign_nothing_but_lists_of_their_own(self):
        for name, function in self.doubles("__eq__", "__repr__", "__str__", "__len__"):
            for node in ast.walk(function):
                if isinstance(node, ast.Assign):
                    self.assertIsInstance(node.value, (ast.List, ast.ListComp), (name, function.name))
                    self.assertTrue(all(isinstance(target, ast.Name) for target in node.targets), name)

    def test_equality_asks_for_the_class_first(self):
        for name, function in self.doubles("__eq__"):
            self.assertEqual(len(function.body), 1, name)
            asked = function.body[0].value
            self.assertIsInstance(asked, ast.BoolOp, name)
            self.assertTrue(is_call_of(asked.values[0], "isinstance"), name)


class IteratedTest(unittest.TestCase):
    def test_what_is_iterated_at_once_is_not_stored(self):
        for name, tree in trees().items():
            for node in ast.walk(tree):
                if isinstance(node, (ast.Assign, ast.Return)):
                    self.assertFalse(is_call_of(node.value, "zip", "enumerate", "reversed", "range"), name)

    def test_sets_are_not_iterated(self):
        for name, tree in trees().items():
            for node in ast.walk(tree):
                if isinstance(node, (ast.For, ast.comprehension)):
                    self.assertFalse(is_call_of(node.iter, "set", "frozenset"), name)
                    self.assertNotIsInstance(node.iter, (ast.Set, ast.SetComp), name)


if __name__ == "__main__":
    unittest.main()
