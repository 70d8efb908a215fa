"""The rules of ../shared/LANGUAGE.md that can be seen line by line or step by step."""

import ast
import builtins
import pathlib
import re
import unittest

ROOT = pathlib.Path(__file__).resolve().parent.parent
PACKAGE = ROOT / "loopbed"
FILES = sorted(path for path in PACKAGE.rglob("*") if path.is_file() and "__pycache__" not in path.parts)

STEPS = """Module FunctionDef ClassDef Lambda arguments arg Return Assign AugAssign For While If Raise Try ExceptHandler
Expr Pass Break Continue ImportFrom alias Constant Name Attribute Subscript Slice Call keyword List Tuple Dict Set
ListComp comprehension BinOp UnaryOp BoolOp Compare IfExp JoinedStr FormattedValue Load Store And Or Not USub UAdd Invert
Add Sub Mult FloorDiv Mod Pow BitAnd BitOr BitXor LShift RShift Eq NotEq Lt LtE Gt GtE Is IsNot In NotIn""".split()
OWN_NAMES = """len range enumerate zip min max sum abs sorted reversed int str bool list tuple dict set frozenset isinstance
ord repr any all divmod Exception ValueError TypeError KeyError IndexError LookupError ZeroDivisionError ArithmeticError
OverflowError RuntimeError NotImplementedError AttributeError StopIteration""".split()
METHODS = """append clear copy count endswith extend find get index insert isalnum isalpha isdigit islower isspace isupper
items join keys ljust lower lstrip partition pop remove replace reverse rfind rjust rpartition rsplit rstrip setdefault
split splitlines startswith strip update upper values zfill bit_length""".split()
UNUSED_NAMES = """register mro elements open input version_info with_traceback add_note attrgetter breakpoint builtins compile
copyright credits delattr dir eval exec exit gc getattr globals hasattr help id importlib license locals methodcaller os
quit setattr super type vars sys""".split()
UNUSED_WORDS = r"""\b(type|typing|typing_extensions|enum|Enum|IntEnum|StrEnum|Flag|IntFlag|Generic|Protocol|ABC|ABCMeta|
namedtuple|NamedTuple|TypedDict|TYPE_CHECKING|abstractmethod)\b|dataclass|overload|contextmanager""".replace("\n", "")
CHANGES = "append clear extend insert pop remove reverse setdefault update".split()
WALKED = "zip enumerate reversed range items keys values".split()
WALKERS = "list tuple dict sorted sum any all enumerate zip min max join".split()
KEYWORDS = {"sorted": ["key", "reverse"], "min": ["key", "default"], "max": ["key", "default"], "sum": ["start"],
            "enumerate": ["start"], "zip": ["strict"]}
VALUE_NAMES = "count index title find get join lower upper split strip copy add".split()
PYTHONS_VALUES = (str, int, list, tuple, dict, set, bytes)


def bound_names(tree):
    for node in ast.walk(tree):
        if isinstance(node, (ast.FunctionDef, ast.ClassDef)):
            yield node.name
        elif isinstance(node, ast.arg):
            yield node.arg
        elif isinstance(node, ast.Name) and isinstance(node.ctx, ast.Store):
            yield node.id


def imports_of(tree):
    return [node for node in ast.walk(tree) if isinstance(node, ast.ImportFrom)]


def top_names(tree):
    names = [node.name for node in tree.body if isinstance(node, (ast.FunctionDef, ast.ClassDef))]
    return names + [target.id for node in tree.body if isinstance(node, ast.Assign) for target in node.targets]


def called_name(node):
    """The name by which a function or a method is called, None for another node."""
    if not isinstance(node, ast.Call):
        return None
    return node.func.id if isinstance(node.func, ast.Name) else node.func.attr


def parents_of(tree):
    return {child: node for node in ast.walk(tree) for child in ast.iter_child_nodes(node)}


class LanguageTest(unittest.TestCase):
    def setUp(self):
        self.trees = {path.stem: ast.parse(path.read_text("utf-8")) for path in FILES}

    def each_node(self, *kinds):
        for name, tree in self.trees.items():
            for node in ast.walk(tree):
                if isinstance(node, kinds):
                    yield name, node

    def test_files(self):
        self.assertIn(PACKAGE / "__init__.py", FILES)
        for path in FILES:
            self.assertRegex(path.name, r"\A[a-z][a-z0-9_]*\.py\Z|\A__init__\.py\Z")
            self.assertNotIn(path.stem, dir(builtins))

    def test_sizes_and_signs(self):
        for path in FILES:
            text = path.read_text("utf-8")
            self.assertRegex(text, r"\A[\n -~]*\Z", path)
            self.assertLessEqual(len(text.split("\n")), 400, path)
            self.assertLessEqual(max(len(line) for line in text.split("\n")), 120, path)
        for name, node in self.each_node(ast.FunctionDef):
            self.assertLessEqual(node.end_lineno - node.lineno + 1, 40, (name, node.name))

    def test_words_that_stand_nowhere(self):
        for path in FILES:
            self.assertIsNone(re.search(UNUSED_WORDS, path.read_text("utf-8")), path)

    def test_steps(self):
        for name, node in self.each_node(ast.AST):
            where = (name, getattr(node, "lineno", 0), ast.dump(node))
            self.assertIn(node.__class__.__name__, STEPS, where)
            if isinstance(node, ast.Assign):
                self.assertEqual(len(node.targets), 1, where)
            elif isinstance(node, (ast.For, ast.While)):
                self.assertEqual(node.orelse, [], where)
            elif isinstance(node, ast.ListComp):
                self.assertEqual(len(node.generators), 1, where)
                self.assertLessEqual(len(node.generators[0].ifs), 1, where)
            elif isinstance(node, ast.FormattedValue):
                self.assertIsInstance(node.value, ast.Name, where)
                self.assertIsNone(node.format_spec, where)
            elif isinstance(node, ast.Constant):
                self.assertIsInstance(node.value, (int, str, type(None)), where)
                self.assertNotIn("%", str(node.value), where)
            elif isinstance(node, ast.FunctionDef):
                plain = node.args
                self.assertEqual([plain.vararg, plain.kwarg, plain.kwonlyargs, plain.posonlyargs, node.decorator_list],
                                 [None, None, [], [], []], where)

    def test_statements_by_themselves_are_calls(self):
        for name, tree in self.trees.items():
            docstring = tree.body[0]
            for node in ast.walk(tree):
                if isinstance(node, ast.Expr) and node is not docstring:
                    self.assertIsInstance(node.value, ast.Call, (name, node.lineno))

    def test_names(self):
        for name, tree in self.trees.items():
            drawn = [alias.name for node in imports_of(tree) for alias in node.names]
            bound = list(bound_names(tree))
            for word in bound:
                self.assertRegex(word, r"\A[A-Za-z][A-Za-z0-9_]*\Z|\A__(init|eq|repr|str|len)__\Z", name)
                self.assertNotIn(word, dir(builtins) + UNUSED_NAMES + drawn, name)
            for node in ast.walk(tree):
                if isinstance(node, ast.Name) and isinstance(node.ctx, ast.Load):
                    self.assertIn(node.id, bound + drawn + OWN_NAMES, (name, node.lineno))
            self.assertEqual(len(set(top_names(tree))), len(top_names(tree)), name)

    def own_methods(self):
        return [node.name for _, found in self.each_node(ast.ClassDef) for node in found.body
                if isinstance(node, ast.FunctionDef)]

    def own_values(self):
        return [node.attr for _, node in self.each_node(ast.Attribute) if isinstance(node.ctx, ast.Store)]

    def test_methods(self):
        for name, node in self.each_node(ast.Attribute):
            self.assertIn(node.attr, METHODS + self.own_methods() + self.own_values(), (name, node.lineno))

    def test_classes(self):
        for name, node in self.each_node(ast.ClassDef):
            self.assertIn(node, self.trees[name].body)
            self.assertLessEqual(len(node.bases), 1, node.name)
            self.assertEqual((node.keywords, node.decorator_list), ([], []), node.name)
            for part in node.body:
                self.assertIsInstance(part, (ast.FunctionDef, ast.Pass), node.name)
            methods = [part.name for part in node.body if isinstance(part, ast.FunctionDef)]
            self.assertEqual(len(set(methods)), len(methods), node.name)

    def test_names_of_methods_and_values(self):
        pythons = {word for kind in PYTHONS_VALUES for word in dir(kind)}
        self.assertEqual(set(self.own_methods()) & set(self.own_values()), set())
        for word in self.own_methods():
            self.assertTrue(word == "__init__" or word not in pythons, word)
        for word in self.own_values():
            self.assertTrue(word in VALUE_NAMES or word not in pythons, word)

    def test_what_is_walked_is_not_kept(self):
        for name, tree in self.trees.items():
            parents = parents_of(tree)
            for node in ast.walk(tree):
                if called_name(node) in WALKED:
                    parent = parents[node]
                    walked = isinstance(parent, (ast.For, ast.comprehension)) and parent.iter is node
                    self.assertTrue(walked or called_name(parent) in WALKERS, (name, node.lineno))

    def test_what_is_walked_is_not_changed(self):
        for name, loop in self.each_node(ast.For):
            walked = {ast.unparse(node) for node in ast.walk(loop.iter) if isinstance(node, (ast.Name, ast.Attribute))}
            for statement in loop.body:
                for node in ast.walk(statement):
                    if called_name(node) in CHANGES and isinstance(node.func, ast.Attribute):
                        self.assertNotIn(ast.unparse(node.func.value), walked, (name, node.lineno))
                    if isinstance(node, ast.Subscript) and isinstance(node.ctx, ast.Store):
                        self.assertNotIn(ast.unparse(node.value), walked, (name, node.lineno))

    def test_nothing_is_kept_at_the_top(self):
        for name, tree in self.trees.items():
            for node in ast.walk(tree):
                if called_name(node) in CHANGES and isinstance(node.func, ast.Attribute):
                    self.assertNotIn(ast.unparse(node.func.value), top_names(tree), (name, node.lineno))
                if isinstance(node, (ast.Subscript, ast.Attribute)) and isinstance(node.ctx, ast.Store):
                    self.assertNotIn(ast.unparse(node.value), top_names(tree), (name, node.lineno))

    def test_calls_is_and_raise(self):
        for name, node in self.each_node(ast.Call, ast.Compare, ast.Raise, ast.Pow, ast.Set, ast.AnnAssign):
            where = (name, getattr(node, "lineno", 0))
            self.assertNotIsInstance(node, (ast.Pow, ast.Set, ast.AnnAssign), where)
            if isinstance(node, ast.Call):
                self.assertNotIn(called_name(node), ("set", "frozenset", "isinstance"), where)
                self.assertLessEqual({word.arg for word in node.keywords}, set(KEYWORDS.get(called_name(node), [])), where)
            elif isinstance(node, ast.Raise):
                self.assertIsInstance(node.exc, ast.Call, where)
            elif isinstance(node.ops[0], (ast.Is, ast.IsNot)):
                self.assertIn(ast.unparse(node.comparators[0]), ("None", "True", "False"), where)

    def test_no_annotations(self):
        for name, node in self.each_node(ast.FunctionDef):
            self.assertIsNone(node.returns, (name, node.name))
            self.assertEqual([arg.annotation for arg in node.args.args], [None] * len(node.args.args), (name, node.name))

    def test_imports(self):
        draws = {}
        for name, tree in self.trees.items():
            draws[name] = []
            for node in imports_of(tree):
                self.assertIn(node, tree.body, name)
                self.assertEqual(node.level, 0, name)
                self.assertRegex(node.module, r"\Aloopbed\.[a-z0-9_]+\Z")
                source = node.module.split(".")[1]
                for alias in node.names:
                    self.assertIn(alias.name, top_names(self.trees[source]), name)
                draws[name].append(source)
        self.assertEqual(draws["__init__"], [])
        while draws:
            free = [name for name in draws if not any(source in draws for source in draws[name])]
            self.assertNotEqual(free, [], f"files that draw from one another: {sorted(draws)}")
            draws = {name: sources for name, sources in draws.items() if name not in free}


if __name__ == "__main__":
    unittest.main()
