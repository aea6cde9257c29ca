"""What can be seen of the rules of the language in the package's own files."""

import ast
import builtins
import pathlib
import re
import unittest

PACKAGE = pathlib.Path(__file__).resolve().parent.parent / "holdercounts"
FILES = sorted(path for path in PACKAGE.rglob("*.py"))

OWN_NAMES = set("""len range enumerate zip min max sum abs sorted reversed int str bool list tuple dict set frozenset
    isinstance ord repr any all divmod Exception ValueError TypeError KeyError IndexError LookupError
    ZeroDivisionError ArithmeticError OverflowError RuntimeError NotImplementedError AttributeError
    StopIteration""".split())
METHODS = set("""append clear copy count endswith extend find get index insert isalnum isalpha isdigit islower isspace
    isupper items join keys ljust lower lstrip partition pop remove replace reverse rfind rjust rpartition rsplit
    rstrip setdefault split splitlines startswith strip update upper values zfill bit_length""".split())
NODES = tuple(getattr(ast, name) for name in """Module FunctionDef arguments arg ClassDef Return Assign AugAssign For
    While If Raise Try ExceptHandler ImportFrom alias Expr Pass Break Continue BoolOp BinOp UnaryOp Lambda IfExp Dict
    Set ListComp comprehension Compare Call FormattedValue JoinedStr Constant Attribute Subscript Name List Tuple Slice
    Load Store boolop operator unaryop cmpop""".split())
NO_NAMES = set("""register mro elements open input version_info with_traceback add_note attrgetter breakpoint builtins
    compile copyright credits delattr dir eval exec exit gc getattr globals hasattr help id importlib license locals
    methodcaller os quit setattr super type vars sys""".split())
NO_WORDS = re.compile(r"\b(type|typing|typing_extensions|enum|Enum|IntEnum|StrEnum|Flag|IntFlag|Generic|Protocol|ABC|"
                      r"ABCMeta|namedtuple|NamedTuple|TypedDict|TYPE_CHECKING|abstractmethod)\b|"
                      r"dataclass|overload|contextmanager")


class Language(unittest.TestCase):
    def each(self, check):
        for path in FILES:
            text = path.read_text(encoding="utf-8")
            with self.subTest(file=path.name):
                check(path, text, ast.parse(text))

    def test_files(self):
        self.assertIn(PACKAGE / "__init__.py", FILES)
        others = [path for path in PACKAGE.rglob("*") if path not in FILES and path.is_file() and path.suffix != ".pyc"]
        self.assertEqual(others, [])

        def check(path, text, tree):
            self.assertRegex(path.name, r"^[a-z][a-z0-9_]*\.py$|^__init__\.py$")
            self.assertNotIn(path.stem, dir(builtins))
        self.each(check)

    def test_signs_and_sizes(self):
        def check(path, text, tree):
            self.assertRegex(text, r"\A[ -~\n]*\Z")
            self.assertLessEqual(len(text.splitlines()), 400)
            self.assertLessEqual(max(len(row) for row in text.splitlines()), 120)
            self.assertIsNone(NO_WORDS.search(text))
            for node in ast.walk(tree):
                if isinstance(node, ast.FunctionDef):
                    self.assertLessEqual(node.end_lineno - node.lineno + 1, 40, node.name)
        self.each(check)

    def test_statements_and_expressions(self):
        def check(path, text, tree):
            for node in ast.walk(tree):
                self.assertIsInstance(node, NODES)
                if isinstance(node, (ast.FunctionDef, ast.ClassDef)):
                    self.assertEqual(node.decorator_list, [])
                if isinstance(node, (ast.For, ast.While)):
                    self.assertEqual(node.orelse, [])
                if isinstance(node, ast.Assign):
                    self.assertEqual(len(node.targets), 1)
                if isinstance(node, ast.Constant):
                    self.assertIn(type(node.value), (int, str, bool, type(None)))
                if isinstance(node, ast.operator):
                    self.assertNotIsInstance(node, (ast.Div, ast.MatMult))
                if isinstance(node, ast.Compare) and any(isinstance(op, (ast.Is, ast.IsNot)) for op in node.ops):
                    self.assertIn(repr(getattr(node.comparators[0], "value", "")), ("None", "True", "False"))
        self.each(check)

    def test_names(self):
        def check(path, text, tree):
            bound = [node.name for node in ast.walk(tree) if isinstance(node, (ast.FunctionDef, ast.ClassDef))]
            bound += [node.arg for node in ast.walk(tree) if isinstance(node, ast.arg)]
            named = [node for node in ast.walk(tree) if isinstance(node, ast.Name)]
            bound += [node.id for node in named if isinstance(node.ctx, ast.Store)]
            bound += [name.name for node in ast.walk(tree) if isinstance(node, ast.ImportFrom) for name in node.names]
            for name in bound:
                if name != "__init__":
                    self.assertFalse(name.startswith("_"), name)
                    self.assertNotIn(name, dir(builtins))
                    self.assertNotIn(name, NO_NAMES)
            for node in ast.walk(tree):
                if isinstance(node, ast.Name) and node.id not in bound:
                    self.assertIn(node.id, OWN_NAMES)
                if isinstance(node, ast.Attribute):
                    self.assertNotIn(node.attr, NO_NAMES)
                if isinstance(node, ast.Call) and isinstance(node.func, ast.Attribute):
                    self.assertIn(node.func.attr, METHODS)
        self.each(check)

    def test_the_top_of_a_file(self):
        def check(path, text, tree):
            self.assertIsNotNone(ast.get_docstring(tree))
            names = []
            for node in tree.body[1:]:
                self.assertIsInstance(node, (ast.ImportFrom, ast.Assign, ast.FunctionDef, ast.ClassDef))
                if isinstance(node, ast.Assign):
                    names.append(node.targets[0].id)
                    ast.literal_eval(node.value)
                elif isinstance(node, ast.ImportFrom):
                    self.assertEqual(node.level, 0)
                    self.assertTrue(node.module.startswith("holdercounts."), node.module)
                    names += [name.name for name in node.names]
                else:
                    names.append(node.name)
            self.assertEqual(len(names), len(set(names)))
        self.each(check)


if __name__ == "__main__":
    unittest.main()
