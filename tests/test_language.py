"""The rules of ../shared/LANGUAGE.md that a short walk over the sources can see."""

import ast
import builtins
import re
import unittest
from pathlib import Path

FOLDER = Path(__file__).resolve().parent.parent / "toldback"
ALLOWED_BUILTINS = set(
    "len range enumerate zip min max sum abs sorted reversed int str bool bytes list tuple dict set "
    "frozenset isinstance ord repr any all divmod iter next Exception ValueError TypeError KeyError "
    "IndexError LookupError ZeroDivisionError ArithmeticError OverflowError RuntimeError "
    "NotImplementedError NotImplemented True False None super property staticmethod classmethod".split()
)
BARRED_WORDS = (
    "type typing typing_extensions enum Enum IntEnum StrEnum Flag IntFlag Generic Protocol ABC ABCMeta "
    "namedtuple NamedTuple TypedDict TYPE_CHECKING abstractmethod"
).split()
BARRED_NAMES = set("register mro elements open input version_info with_traceback add_note".split())
BARRED_NODES = (
    ast.Global, ast.AsyncFunctionDef, ast.AsyncFor, ast.AsyncWith, ast.Await, ast.Div, ast.MatMult, ast.Import,
)


def files():
    return sorted(FOLDER.glob("*.py"))


def bound_names(tree):
    """Every name that the file gives a meaning."""
    names = set()
    for node in ast.walk(tree):
        if isinstance(node, (ast.FunctionDef, ast.ClassDef)):
            names.add(node.name)
        elif isinstance(node, ast.arg):
            names.add(node.arg)
        elif isinstance(node, ast.Name) and not isinstance(node.ctx, ast.Load):
            names.add(node.id)
        elif isinstance(node, ast.ImportFrom):
            names.update(alias.asname or alias.name for alias in node.names)
        elif isinstance(node, ast.ExceptHandler) and node.name:
            names.add(node.name)
    return names


class Language(unittest.TestCase):
    def each_node(self):
        for path in files():
            for node in ast.walk(ast.parse(path.read_text())):
                yield f"{path.name}:{getattr(node, 'lineno', 0)}", node

    def test_files(self):
        for path in FOLDER.iterdir():
            if path.name != "__pycache__":
                self.assertRegex(path.name, r"\A[a-z0-9_]+\.py\Z")
        self.assertIn("__init__.py", [path.name for path in files()])

    def test_characters_and_sizes(self):
        for path in files():
            text = path.read_bytes().decode("ascii")
            self.assertRegex(text, r"\A[ -~\n]*\Z", path.name)
            lines = text.split("\n")
            self.assertLessEqual(len(lines), 400, path.name)
            self.assertLessEqual(max(len(line) for line in lines), 120, path.name)

    def test_functions_are_short_and_plain(self):
        for where, node in self.each_node():
            if isinstance(node, ast.FunctionDef):
                self.assertLessEqual(node.end_lineno - node.lineno + 1, 40, where)
                self.assertEqual(node.args.posonlyargs, [], where)

    def test_barred_words(self):
        for path in files():
            words = set(re.findall(r"\w+", path.read_text()))
            self.assertEqual([word for word in BARRED_WORDS if word in words], [], path.name)

    def test_barred_nodes(self):
        for where, node in self.each_node():
            self.assertNotIsInstance(node, BARRED_NODES, where)
            if isinstance(node, ast.Constant):
                self.assertNotIsInstance(node.value, (float, complex), where)
                self.assertNotIn("%", node.value if isinstance(node.value, str) else "", where)

    def test_imports(self):
        for where, node in self.each_node():
            if isinstance(node, ast.ImportFrom):
                self.assertEqual(node.level, 0, where)
                self.assertRegex(node.module, r"\Atoldback\.[a-z0-9_]+\Z", where)
                source = FOLDER / (node.module.split(".")[1] + ".py")
                defined = ast.parse(source.read_text()).body
                names = {name for part in defined if not isinstance(part, ast.ImportFrom) for name in bound_names(part)}
                for alias in node.names:
                    self.assertIn(alias.name, names, where)

    def test_names(self):
        for path in files():
            tree = ast.parse(path.read_text())
            bound = bound_names(tree)
            # Asked of its dict: as an object the module has an __init__, which is no builtin name.
            self.assertEqual([name for name in bound if name in vars(builtins)], [], path.name)
            self.assertEqual(sorted(bound & BARRED_NAMES), [], path.name)
            for name in bound:
                self.assertRegex(name, r"\A([A-Za-z][A-Za-z0-9_]*|__[a-z]+__)\Z", path.name)
            for node in ast.walk(tree):
                if isinstance(node, ast.Name) and node.id not in bound:
                    self.assertIn(node.id, ALLOWED_BUILTINS, f"{path.name}:{node.lineno}")

    def test_no_name_is_bound_over_an_import_or_a_class(self):
        for path in files():
            tree = ast.parse(path.read_text())
            outer = {alias.name for node in tree.body if isinstance(node, ast.ImportFrom) for alias in node.names}
            outer |= {node.name for node in tree.body if isinstance(node, ast.ClassDef)}
            for node in ast.walk(tree):
                if isinstance(node, ast.FunctionDef):
                    inner = bound_names(node) - {node.name}
                    self.assertEqual(sorted(inner & outer), [], f"{path.name}:{node.lineno}")

    def test_no_name_is_a_method_and_an_attribute(self):
        methods, attributes = set(), set()
        for where, node in self.each_node():
            if isinstance(node, ast.ClassDef):
                methods |= {part.name for part in node.body if isinstance(part, ast.FunctionDef)}
            if isinstance(node, ast.Attribute) and isinstance(node.ctx, ast.Store):
                attributes.add(node.attr)
        self.assertEqual(sorted(methods & attributes), [])


if __name__ == "__main__":
    unittest.main()
