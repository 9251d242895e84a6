"""The plainest rules of the program's form, asked of each file of the package."""

import ast
import pathlib
import re
import unittest

PACKAGE = pathlib.Path(__file__).resolve().parent.parent / "gapshelf"

WORDS_NOT_USED = re.compile(
    r"\b(type|typing|typing_extensions|enum|Enum|IntEnum|StrEnum|Flag|IntFlag|Generic|Protocol|ABC|ABCMeta"
    r"|namedtuple|NamedTuple|TypedDict|TYPE_CHECKING|abstractmethod)\b|dataclass|overload|contextmanager"
)

NODES_NOT_USED = (
    ast.With, ast.Match, ast.Delete, ast.Global, ast.Nonlocal, ast.Assert, ast.Yield, ast.YieldFrom,
    ast.AsyncFunctionDef, ast.AsyncFor, ast.AsyncWith, ast.Await, ast.Import, ast.Div, ast.SetComp,
    ast.DictComp, ast.GeneratorExp, ast.NamedExpr, ast.Starred,
)


def files():
    return sorted(PACKAGE.glob("*.py"))


class FormTest(unittest.TestCase):
    def test_the_package_holds_python_files_alone(self):
        self.assertTrue(files())
        others = [path.name for path in PACKAGE.iterdir() if path.name != "__pycache__" and path not in files()]
        self.assertEqual(others, [])

    def test_signs_and_sizes(self):
        for path in files():
            with self.subTest(file=path.name):
                text = path.read_text(encoding="utf-8")
                self.assertEqual([sign for sign in text if sign != "\n" and not " " <= sign <= "~"], [])
                lines = text.split("\n")
                self.assertLessEqual(len(lines), 400)
                self.assertLessEqual(max(len(line) for line in lines), 120)

    def test_words(self):
        for path in files():
            with self.subTest(file=path.name):
                self.assertIsNone(WORDS_NOT_USED.search(path.read_text(encoding="utf-8")))

    def test_nodes(self):
        for path in files():
            for node in ast.walk(ast.parse(path.read_text(encoding="utf-8"))):
                with self.subTest(file=path.name, line=getattr(node, "lineno", 0)):
                    self.assertNotIsInstance(node, NODES_NOT_USED)
                    self.assert_node(node)

    def assert_node(self, node):
        if isinstance(node, ast.FunctionDef):
            self.assertLessEqual(node.end_lineno - node.lineno + 1, 40)
            self.assertEqual(node.decorator_list, [])
        if isinstance(node, ast.ImportFrom):
            self.assertTrue(node.module.startswith("gapshelf."))
            self.assertEqual(node.level, 0)
        if isinstance(node, ast.Assign):
            self.assertEqual(len(node.targets), 1)
        if isinstance(node, (ast.For, ast.While)):
            self.assertEqual(node.orelse, [])


if __name__ == "__main__":
    unittest.main()
