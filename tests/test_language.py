"""The rules of the language that are plainly seen: sizes, characters, words, imports, names."""

import ast
import builtins
import pathlib
import re
import unittest

FOLDER = pathlib.Path(__file__).resolve().parent.parent / "markpieces"
WORDS = re.compile(
    r"\b(type|typing|typing_extensions|enum|Enum|IntEnum|StrEnum|Flag|IntFlag|Generic|Protocol|ABC|ABCMeta|namedtuple"
    r"|NamedTuple|TypedDict|TYPE_CHECKING|abstractmethod)\b|dataclass|overload|contextmanager")
UNUSED = {"register", "mro", "elements", "open", "input", "law", "version_info", "with_traceback", "add_note",
          "id", "dir", "vars", "help", "exit", "compile", "super", "sys", "os"}


def files():
    return sorted(FOLDER.rglob("*.py"))


def functions(tree):
    return [node for node in ast.walk(tree) if isinstance(node, ast.FunctionDef)]


class Language(unittest.TestCase):
    def test_sizes_and_characters(self):
        for file in files():
            text = file.read_text(encoding="utf-8")
            self.assertTrue(set(text) <= {chr(code) for code in range(32, 127)} | {"\n"}, file)
            self.assertLess(len(text.splitlines()), 400, file)
            self.assertLessEqual(max(len(line) for line in text.splitlines()), 120, file)
            for function in functions(ast.parse(text)):
                self.assertLessEqual(function.end_lineno - function.lineno + 1, 40, (file, function.name))

    def test_words_that_do_not_occur(self):
        for file in files():
            self.assertIsNone(WORDS.search(file.read_text(encoding="utf-8")), file)

    def test_imports_name_files_of_the_package(self):
        for file in files():
            for node in ast.walk(ast.parse(file.read_text(encoding="utf-8"))):
                self.assertNotIsInstance(node, (ast.Import, ast.Global, ast.AsyncFunctionDef), file)
                if isinstance(node, ast.ImportFrom):
                    self.assertEqual((node.level, node.module.split(".")[0]), (0, "markpieces"), file)
                    self.assertTrue((FOLDER / f"{node.module.split('.')[1]}.py").exists(), node.module)

    def test_names(self):
        for file in files():
            tree = ast.parse(file.read_text(encoding="utf-8"))
            names = [node.id for node in ast.walk(tree) if isinstance(node, ast.Name) and not isinstance(node.ctx, ast.Load)]
            names += [function.name for function in functions(tree)]
            names += [one.arg for one in ast.walk(tree) if isinstance(one, ast.arg)]
            for name in names:
                self.assertTrue(re.fullmatch("[A-Za-z]\\w*|__[a-z]+__", name), (file, name))
                self.assertNotIn(name, UNUSED, file)
                self.assertNotIn(name, dir(builtins), file)

    def test_the_folder_holds_nothing_else(self):
        others = [path for path in FOLDER.rglob("*") if path.suffix not in (".py", ".pyc") and path.name != "__pycache__"]
        self.assertEqual(others, [])


if __name__ == "__main__":
    unittest.main()
