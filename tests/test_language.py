"""The package keeps to its small part of the language, as far as a look at the code can tell.

So nothing can hang on a clock, chance or files either: there is no import and no built-in name to reach one.
"""

import ast
import builtins
import pathlib
import re
import unittest

ROOT = pathlib.Path(__file__).resolve().parent.parent
PACKAGE = ROOT / "freshrooms"

STATEMENTS = """Module FunctionDef arguments arg ClassDef Assign AugAssign If While For Return Break Continue Pass Raise Try
ExceptHandler Expr ImportFrom alias"""
EXPRESSIONS = """Constant Name Load Store List Tuple Dict Set BinOp Add Sub Mult FloorDiv Mod Pow BitAnd BitOr BitXor LShift
RShift UnaryOp Not USub UAdd Invert Compare Eq NotEq Lt LtE Gt GtE In NotIn Is IsNot BoolOp And Or IfExp Call keyword
Attribute Subscript Slice ListComp comprehension JoinedStr FormattedValue Lambda"""
NODES = (STATEMENTS + " " + EXPRESSIONS).split()

OWN_NAMES = """len range enumerate zip min max sum abs sorted reversed int str bool list tuple dict set frozenset isinstance
ord repr any all divmod ValueError KeyError IndexError LookupError ZeroDivisionError OverflowError StopIteration
Exception""".split()

METHODS = """append clear copy count endswith extend find get index insert isalnum isalpha isdigit islower isspace isupper items
join keys ljust lower lstrip partition pop remove replace reverse rfind rjust rpartition rsplit rstrip setdefault split
splitlines startswith strip update upper values zfill bit_length""".split()

BANNED_WORDS = """type typing typing_extensions enum Enum IntEnum StrEnum Flag IntFlag Generic Protocol ABC ABCMeta namedtuple
NamedTuple TypedDict TYPE_CHECKING abstractmethod""".split()
BANNED_PARTS = ["dataclass", "overload", "contextmanager"]


def package_files():
    return sorted(path for path in PACKAGE.iterdir() if path.name != "__pycache__")


def parsed_files():
    texts = [(path.name, path.read_text(encoding="utf-8")) for path in package_files()]
    return [(name, text, ast.parse(text)) for name, text in texts]


def bound_names(tree):
    names = set()
    for node in ast.walk(tree):
        if isinstance(node, (ast.FunctionDef, ast.ClassDef)):
            names.add(node.name)
        elif isinstance(node, ast.arg):
            names.add(node.arg)
        elif isinstance(node, ast.Name) and isinstance(node.ctx, ast.Store):
            names.add(node.id)
        elif isinstance(node, ast.ExceptHandler) and node.name:
            names.add(node.name)
        elif isinstance(node, ast.ImportFrom):
            names.update(alias.name for alias in node.names)
    return names


def top_names(tree):
    names = []
    for node in tree.body:
        if isinstance(node, (ast.FunctionDef, ast.ClassDef)):
            names.append(node.name)
        elif isinstance(node, ast.Assign):
            names.append(node.targets[0].id)
    return names


def is_call_of(node, names):
    return isinstance(node, ast.Call) and isinstance(node.func, ast.Name) and node.func.id in names


class LanguageTest(unittest.TestCase):
    def test_the_folder(self):
        names = [path.name for path in package_files()]
        self.assertIn("__init__.py", names)
        for name in names:
            self.assertRegex(name, r"\A[a-z0-9_]+\.py\Z")

    def test_signs_and_sizes(self):
        for file, text, tree in parsed_files():
            with self.subTest(file=file):
                self.assertRegex(text, r"\A[ -~\n]*\Z")
                lines = text.splitlines()
                self.assertLessEqual(len(lines), 400)
                self.assertLessEqual(max(len(line) for line in lines), 120)
                for node in ast.walk(tree):
                    if isinstance(node, ast.FunctionDef):
                        self.assertLessEqual(node.end_lineno - node.lineno + 1, 40, node.name)

    def test_words_that_stand_nowhere(self):
        for file, text, tree in parsed_files():
            with self.subTest(file=file):
                self.assertEqual(set(re.findall(r"\w+", text)) & set(BANNED_WORDS), set())
                for part in BANNED_PARTS:
                    self.assertNotIn(part, text)

    def test_only_the_allowed_forms(self):
        for file, text, tree in parsed_files():
            with self.subTest(file=file):
                for node in ast.walk(tree):
                    self.assertIn(node.__class__.__name__, NODES, getattr(node, "lineno", None))
                    if isinstance(node, (ast.FunctionDef, ast.ClassDef)):
                        self.assertEqual(node.decorator_list, [])
                    if isinstance(node, ast.comprehension):
                        self.assertLessEqual(len(node.ifs), 1)
                    if isinstance(node, ast.ListComp):
                        self.assertEqual(len(node.generators), 1)
                    if isinstance(node, ast.Assign):
                        self.assertEqual(len(node.targets), 1)
                    if isinstance(node, ast.Constant):
                        self.assertIsInstance(node.value, (int, str, type(None)))

    def test_imports(self):
        for file, text, tree in parsed_files():
            with self.subTest(file=file):
                for node in ast.walk(tree):
                    if isinstance(node, ast.ImportFrom):
                        self.assertEqual(node.level, 0)
                        self.assertIn(node, tree.body)
                        self.assertRegex(node.module, r"\Afreshrooms\.[a-z]+\Z")
                        source = ROOT / (node.module.replace(".", "/") + ".py")
                        for alias in node.names:
                            self.assertIn(alias.name, top_names(ast.parse(source.read_text(encoding="utf-8"))))

    def test_no_two_files_draw_from_one_another(self):
        drawn = {}
        for file, text, tree in parsed_files():
            modules = [node.module for node in tree.body if isinstance(node, ast.ImportFrom)]
            drawn["freshrooms." + file.removesuffix(".py")] = set(modules)
        while drawn:
            ready = [module for module in drawn if not drawn[module] & set(drawn)]
            self.assertNotEqual(ready, [], sorted(drawn))
            drawn = {module: drawn[module] for module in drawn if module not in ready}

    def test_is_stands_beside_none_and_truths_alone(self):
        for file, text, tree in parsed_files():
            with self.subTest(file=file):
                for node in ast.walk(tree):
                    if isinstance(node, ast.Compare) and isinstance(node.ops[0], (ast.Is, ast.IsNot)):
                        self.assertIsInstance(node.comparators[0], ast.Constant, node.lineno)

    def test_texts_and_f_strings(self):
        for file, text, tree in parsed_files():
            with self.subTest(file=file):
                for node in ast.walk(tree):
                    if isinstance(node, ast.Constant) and isinstance(node.value, str):
                        self.assertNotIn("%", node.value)
                    if isinstance(node, ast.FormattedValue):
                        self.assertIsInstance(node.value, ast.Name)
                        self.assertIsNone(node.format_spec)

    def test_no_local_is_called_like_a_class_or_an_import(self):
        for file, text, tree in parsed_files():
            with self.subTest(file=file):
                taken = {node.name for node in tree.body if isinstance(node, ast.ClassDef)}
                for node in tree.body:
                    if isinstance(node, ast.ImportFrom):
                        taken.update(alias.name for alias in node.names)
                for function in tree.body:
                    if isinstance(function, ast.FunctionDef):
                        self.assertEqual((bound_names(function) - {function.name}) & taken, set())

    def test_names(self):
        for file, text, tree in parsed_files():
            with self.subTest(file=file):
                own = bound_names(tree)
                self.assertEqual(own & set(dir(builtins)), set())
                self.assertEqual(len(top_names(tree)), len(set(top_names(tree))))
                for name in own:
                    self.assertRegex(name, r"\A(?:[A-Za-z][A-Za-z0-9_]*|__init__)\Z")
                for node in ast.walk(tree):
                    if isinstance(node, ast.Name) and isinstance(node.ctx, ast.Load):
                        self.assertIn(node.id, own | set(OWN_NAMES), node.lineno)

    def test_classes_hold_methods_alone(self):
        methods, values = set(), set()
        for file, text, tree in parsed_files():
            with self.subTest(file=file):
                for node in ast.walk(tree):
                    if isinstance(node, ast.ClassDef):
                        self.assertIn(node, tree.body)
                        for part in node.body:
                            self.assertIsInstance(part, (ast.FunctionDef, ast.Pass))
                        methods |= {part.name for part in node.body if isinstance(part, ast.FunctionDef)}
                    if isinstance(node, ast.Attribute) and isinstance(node.ctx, ast.Store):
                        values.add(node.attr)
        self.assertEqual(methods & values, set())
        self.assertEqual((methods | values) & set(dir(str) + dir(int) + dir(list) + dir(dict) + dir(set) + dir(bytes)), {"__init__"})

    def test_sets_are_not_kept_and_not_walked(self):
        for file, text, tree in parsed_files():
            with self.subTest(file=file):
                kept = {
                    node for node in ast.walk(tree)
                    if isinstance(node, ast.Set) or is_call_of(node, ["set", "frozenset"])
                }
                for node in ast.walk(tree):
                    if is_call_of(node, ["sorted", "len"]) and not node.keywords:
                        kept -= set(node.args)
                    if isinstance(node, ast.Compare):
                        kept -= set(node.comparators)
                self.assertEqual({node.lineno for node in kept}, set())

    def test_walks_are_walked_at_once(self):
        for file, text, tree in parsed_files():
            with self.subTest(file=file):
                kept = {
                    node for node in ast.walk(tree)
                    if is_call_of(node, ["zip", "enumerate", "reversed", "range"]) or (
                        isinstance(node, ast.Call) and isinstance(node.func, ast.Attribute)
                        and node.func.attr in ("items", "keys", "values")
                    )
                }
                for node in ast.walk(tree):
                    if isinstance(node, (ast.For, ast.comprehension)):
                        kept.discard(node.iter)
                    if is_call_of(node, ["list", "tuple", "dict", "sorted", "sum", "any", "all", "enumerate", "zip"]):
                        kept -= set(node.args[:1])
                self.assertEqual({node.lineno for node in kept}, set())

    def test_no_keywords_but_those_that_are_told(self):
        for file, text, tree in parsed_files():
            with self.subTest(file=file):
                for node in ast.walk(tree):
                    if isinstance(node, ast.Call) and node.keywords:
                        self.assertTrue(is_call_of(node, ["sorted", "min", "max", "sum", "enumerate", "zip"]), node.lineno)

    def test_the_top_of_a_module(self):
        for file, text, tree in parsed_files():
            with self.subTest(file=file):
                self.assertTrue(ast.get_docstring(tree))
                for node in tree.body[1:]:
                    self.assertIsInstance(node, (ast.ImportFrom, ast.FunctionDef, ast.ClassDef, ast.Assign))
                    if isinstance(node, ast.Assign):
                        ast.literal_eval(node.value)

    def test_methods(self):
        own = set()
        for file, text, tree in parsed_files():
            with self.subTest(file=file):
                own |= {node.name for node in ast.walk(tree) if isinstance(node, ast.FunctionDef)}
        for file, text, tree in parsed_files():
            with self.subTest(file=file):
                for node in ast.walk(tree):
                    if isinstance(node, ast.Call) and isinstance(node.func, ast.Attribute):
                        self.assertIn(node.func.attr, METHODS + sorted(own), node.lineno)


if __name__ == "__main__":
    unittest.main()
