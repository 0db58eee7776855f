"""The form of the package's files: what can be seen of ../shared/LANGUAGE.md without reading the code's sense."""

import ast
import builtins
import pathlib
import re
import unittest

PACKAGE = pathlib.Path(__file__).resolve().parent.parent / "cluemaker"
FILES = sorted(PACKAGE.glob("*.py"))

ERRORS = """Exception ValueError TypeError KeyError IndexError LookupError ZeroDivisionError ArithmeticError OverflowError
RuntimeError NotImplementedError AttributeError StopIteration""".split()
OWN_OF_PYTHON = """len range enumerate zip min max sum abs sorted reversed int str bool list tuple dict set frozenset
isinstance ord repr any all divmod""".split() + ERRORS
METHODS = """append clear copy count endswith extend find get index insert isalnum isalpha isdigit islower isspace isupper
items join keys ljust lower lstrip partition pop remove replace reverse rfind rjust rpartition rsplit rstrip setdefault
split splitlines startswith strip update upper values zfill bit_length""".split()
PYTHONS_OWN_METHODS = {name for kind in (str, int, list, tuple, dict, set, bytes) for name in dir(kind)}
UNDERSCORED = ["__init__", "__eq__", "__repr__", "__str__", "__len__"]
WORDS_OUT = """type typing typing_extensions enum Enum IntEnum StrEnum Flag IntFlag Generic Protocol ABC ABCMeta namedtuple
NamedTuple TypedDict TYPE_CHECKING abstractmethod""".split()
PARTS_OUT = ["dataclass", "overload", "contextmanager"]
NAMES_OUT = """register mro elements open input version_info with_traceback add_note attrgetter breakpoint builtins compile
copyright credits delattr dir eval exec exit gc getattr globals hasattr help id importlib license locals methodcaller os
quit setattr super type vars sys chr""".split()
NODES = """Module FunctionDef ClassDef arguments arg Return Assign AugAssign For While If Raise Try ExceptHandler
ImportFrom alias Expr Pass Break Continue BoolOp And Or BinOp Add Sub Mult FloorDiv Mod Pow BitAnd BitOr BitXor LShift
RShift UnaryOp Not USub UAdd Invert Lambda IfExp Dict Set List Tuple ListComp comprehension Compare Eq NotEq Lt LtE Gt GtE
Is IsNot In NotIn Call keyword JoinedStr FormattedValue Constant Attribute Subscript Slice Name Load Store""".split()


def trees():
    return [(file.name, ast.parse(file.read_text(encoding="utf-8"))) for file in FILES]


def nodes():
    return [(f"{name}: {getattr(node, 'lineno', 0)}", node) for name, tree in trees() for node in ast.walk(tree)]


def bound_names(tree):
    found = [node.id for node in ast.walk(tree) if isinstance(node, ast.Name) and isinstance(node.ctx, ast.Store)]
    found += [node.arg for node in ast.walk(tree) if isinstance(node, ast.arg)]
    found += [node.name for node in ast.walk(tree) if isinstance(node, (ast.FunctionDef, ast.ClassDef))]
    return found


def drawn_from(tree):
    return [(node.module, alias) for node in tree.body if isinstance(node, ast.ImportFrom) for alias in node.names]


def defined_at_top(tree):
    found = [node.name for node in tree.body if isinstance(node, (ast.FunctionDef, ast.ClassDef))]
    return found + [node.targets[0].id for node in tree.body if isinstance(node, ast.Assign)]


class Files(unittest.TestCase):
    def test_names_and_what_lies_there(self):
        self.assertTrue((PACKAGE / "__init__.py").is_file())
        for path in PACKAGE.iterdir():
            if path.name != "__pycache__":
                self.assertRegex(path.name, r"^(__init__|[a-z][a-z0-9_]*)\.py$")
                self.assertNotIn(path.stem, dir(builtins))

    def test_signs_lines_and_length(self):
        for file in FILES:
            text = file.read_bytes().decode("ascii")
            self.assertRegex(text, r"\A[ -~\n]*\Z", file.name)
            self.assertLessEqual(len(text.splitlines()), 400, file.name)
            self.assertLessEqual(max(len(line) for line in text.splitlines()), 120, file.name)

    def test_words_that_stand_nowhere(self):
        for file in FILES:
            text = file.read_text()
            for word in WORDS_OUT:
                self.assertIsNone(re.search(rf"\b{word}\b", text), (file.name, word))
            for part in PARTS_OUT:
                self.assertNotIn(part, text, file.name)


class Code(unittest.TestCase):
    def test_only_the_kinds_of_code_allowed(self):
        for where, node in nodes():
            self.assertIn(type(node).__name__, NODES, where)
            if isinstance(node, ast.Constant):
                self.assertNotIsInstance(node.value, (float, complex, bytes, type(...)), where)
            if isinstance(node, ast.Assign):
                self.assertEqual(len(node.targets), 1, where)
            if isinstance(node, (ast.For, ast.While)):
                self.assertEqual(node.orelse, [], where)
            if isinstance(node, ast.Expr) and not isinstance(node.value, ast.Call):
                self.assertEqual(node.lineno, 1, where)
            if isinstance(node, ast.ListComp):
                self.assertEqual(len(node.generators), 1, where)
                self.assertLessEqual(len(node.generators[0].ifs), 1, where)
            if isinstance(node, ast.Constant) and isinstance(node.value, str):
                self.assertNotIn("%", node.value, where)

    def test_functions_and_classes(self):
        for where, node in nodes():
            if isinstance(node, (ast.FunctionDef, ast.ClassDef)):
                self.assertEqual(node.decorator_list, [], where)
            if isinstance(node, ast.FunctionDef):
                self.assertLessEqual(node.end_lineno - node.lineno + 1, 40, where)
                self.assertIsNone(node.args.vararg or node.args.kwarg, where)
                self.assertEqual(node.args.kwonlyargs + node.args.posonlyargs, [], where)
            if isinstance(node, ast.ClassDef):
                self.assertLessEqual(len(node.bases), 1, where)
                for inner in node.body:
                    self.assertIsInstance(inner, (ast.FunctionDef, ast.Pass), where)

    def test_names(self):
        for name, tree in trees():
            bound = bound_names(tree)
            imported = [alias.name for module, alias in drawn_from(tree)]
            for word in bound:
                self.assertTrue(re.match(r"[A-Za-z]\w*$", word) or word in UNDERSCORED, (name, word))
                self.assertNotIn(word, NAMES_OUT, name)
            for node in ast.walk(tree):
                if isinstance(node, ast.Name) and isinstance(node.ctx, ast.Load):
                    self.assertIn(node.id, bound + imported + OWN_OF_PYTHON, name)
                    self.assertNotIn(node.id, NAMES_OUT, name)
            top = defined_at_top(tree) + imported
            self.assertEqual(len(top), len(set(top)), name)

    def test_parameters_and_locals_are_called_like_nothing_else(self):
        for name, tree in trees():
            taken = [alias.name for module, alias in drawn_from(tree)] + dir(builtins)
            taken += [node.name for node in tree.body if isinstance(node, ast.ClassDef)]
            for node in ast.walk(tree):
                if isinstance(node, (ast.FunctionDef, ast.Lambda)):
                    inner = [one.arg for one in ast.walk(node) if isinstance(one, ast.arg)]
                    inner += [one.id for one in ast.walk(node)
                              if isinstance(one, ast.Name) and isinstance(one.ctx, ast.Store)]
                    self.assertEqual([word for word in inner if word in taken], [], name)

    def test_no_name_is_a_method_here_and_a_value_there(self):
        methods = []
        values = []
        for where, node in nodes():
            if isinstance(node, ast.ClassDef):
                methods += [inner.name for inner in node.body if isinstance(inner, ast.FunctionDef)]
            if isinstance(node, ast.Attribute) and isinstance(node.ctx, ast.Store):
                values.append(node.attr)
        self.assertEqual([name for name in values if name in methods], [])

    def test_a_class_lends_its_first_method_alone(self):
        classes = [node.name for where, node in nodes() if isinstance(node, ast.ClassDef)]
        for where, node in nodes():
            if isinstance(node, ast.Attribute) and isinstance(node.value, ast.Name) and node.value.id in classes:
                self.assertEqual(node.attr, "__init__", where)

    def test_power_is_and_written_sets(self):
        for where, node in nodes():
            if isinstance(node, ast.BinOp) and isinstance(node.op, ast.Pow):
                self.assertIsInstance(node.right, ast.Constant, where)
            if isinstance(node, ast.Compare) and any(isinstance(op, (ast.Is, ast.IsNot)) for op in node.ops):
                self.assertIsInstance(node.comparators[0], ast.Constant, where)
            if isinstance(node, ast.Set):
                self.assertLess(len(node.elts), 3, where)

    def test_methods_of_pythons_own(self):
        for where, node in nodes():
            if isinstance(node, ast.Attribute) and node.attr not in UNDERSCORED:
                self.assertFalse(node.attr.startswith("_"), where)
                self.assertTrue(node.attr in METHODS + ["add", "discard"] or node.attr not in PYTHONS_OWN_METHODS, where)

    def test_imports(self):
        tops = {name[:-3]: defined_at_top(tree) for name, tree in trees()}
        draws = {}
        for name, tree in trees():
            draws[name[:-3]] = []
            for module, alias in drawn_from(tree):
                self.assertRegex(module, r"^cluemaker\.[a-z]+$", name)
                self.assertIsNone(alias.asname, name)
                self.assertIn(alias.name, tops[module.partition(".")[2]], name)
                draws[name[:-3]].append(module.partition(".")[2])
        while draws:
            free = [name for name in draws if not any(other in draws for other in draws[name])]
            self.assertTrue(free, f"files draw from one another: {sorted(draws)}")
            draws = {name: draws[name] for name in draws if name not in free}


if __name__ == "__main__":
    unittest.main()
