"""The rules of the language that are plainly seen: sizes, characters, words, imports, names, calls, sets."""

import ast
import builtins
import pathlib
import re
import unittest

FOLDER = pathlib.Path(__file__).resolve().parent.parent / "markpieces"
WORDS = re.compile(
    r"\b(type|typing|typing_extensions|enum|Enum|IntEnum|StrEnum|Flag|IntFlag|Generic|Protocol|ABC|ABCMeta|namedtuple"
    r"|NamedTuple|TypedDict|TYPE_CHECKING|abstractmethod)\b|dataclass|overload|contextmanager")
UNUSED = {"register", "mro", "elements", "open", "input", "law", "version_info", "with_traceback", "add_note",
          "id", "dir", "vars", "help", "exit", "compile", "super", "sys", "os"}
BUILTINS = {"len", "range", "enumerate", "zip", "min", "max", "sum", "abs", "sorted", "reversed", "int", "str", "bool",
            "list", "tuple", "dict", "set", "isinstance", "ord", "repr", "any", "all", "divmod", "super", "ValueError",
            "LookupError", "KeyError", "IndexError", "TypeError", "NotImplemented"}
METHODS = set("""append clear copy count endswith extend find get index insert isalnum isalpha isdigit islower isspace
    isupper items join keys ljust lower lstrip partition pop remove replace reverse rfind rjust rpartition rsplit rstrip
    setdefault split splitlines startswith strip update upper values zfill bit_length""".split())
KEYWORDS = {"sorted": {"key", "reverse"}, "min": {"key", "default"}, "max": {"key", "default"}, "sum": {"start"},
            "enumerate": {"start"}, "zip": {"strict"}}
LAZY = {"zip", "enumerate", "reversed", "range"}
TAKERS = {"list", "tuple", "dict", "sorted", "sum", "any", "all", "enumerate", "zip", "min", "max"}
STATEMENTS = (ast.FunctionDef, ast.ClassDef, ast.Return, ast.Assign, ast.AugAssign, ast.For, ast.While, ast.If, ast.Raise,
              ast.Try, ast.ImportFrom, ast.Expr, ast.Pass, ast.Break, ast.Continue, ast.Delete, ast.Assert)


def files():
    return sorted(FOLDER.rglob("*.py"))


def trees():
    """(file, its tree), each node with the one around it as its field up."""
    for file in files():
        tree = ast.parse(file.read_text(encoding="utf-8"))
        for node in ast.walk(tree):
            for child in ast.iter_child_nodes(node):
                child.up = node
        yield file, tree


def of_kind(tree, *kinds):
    return [node for node in ast.walk(tree) if isinstance(node, kinds)]


def functions(tree):
    return of_kind(tree, ast.FunctionDef)


def called(node):
    """The plain name of what is called, or None."""
    return node.func.id if isinstance(node, ast.Call) and isinstance(node.func, ast.Name) else None


def own_methods():
    return {one.name for _, tree in trees() for made in of_kind(tree, ast.ClassDef) for one in made.body
            if isinstance(one, ast.FunctionDef)}


def assigned_attributes():
    return {node.attr for _, tree in trees() for node in of_kind(tree, ast.Attribute) if isinstance(node.ctx, ast.Store)}


class Language(unittest.TestCase):
    def test_sizes_and_characters(self):
        for file in files():
            text = file.read_text(encoding="utf-8")
            self.assertTrue(set(text) <= {chr(code) for code in range(32, 127)} | {"\n"}, file)
            self.assertLess(len(text.splitlines()), 400, file)
            self.assertLessEqual(max(len(line) for line in text.splitlines()), 120, file)
            for function in functions(ast.parse(text)):
                self.assertLessEqual(function.end_lineno - function.lineno + 1, 40, (file, function.name))

    def test_words_that_do_not_occur(self):
        for file in files():
            self.assertIsNone(WORDS.search(file.read_text(encoding="utf-8")), file)

    def test_imports_name_the_files_that_define_the_names(self):
        leads = {}
        for file, tree in trees():
            leads[file.stem] = set()
            for node in of_kind(tree, ast.Import, ast.ImportFrom):
                self.assertIsInstance(node, ast.ImportFrom, file)
                package, name = node.module.split(".")
                self.assertEqual((node.level, package), (0, "markpieces"), file)
                leads[file.stem].add(name)
                defined = {one.name for one in ast.parse((FOLDER / f"{name}.py").read_text()).body if hasattr(one, "name")}
                defined |= {one.targets[0].id for one in ast.parse((FOLDER / f"{name}.py").read_text()).body
                            if isinstance(one, ast.Assign)}
                for one in node.names:
                    self.assertIn(one.name, defined, file)
                    self.assertIsNone(one.asname, file)
        while leads:
            free = [name for name in leads if not leads[name] & set(leads)]
            self.assertTrue(free, f"these import from one another: {sorted(leads)}")
            for name in free:
                del leads[name]

    def test_names(self):
        for file, tree in trees():
            names = [node.id for node in of_kind(tree, ast.Name) if not isinstance(node.ctx, ast.Load)]
            names += [function.name for function in functions(tree)]
            names += [one.arg for one in of_kind(tree, ast.arg)]
            for name in names:
                self.assertTrue(re.fullmatch("[A-Za-z]\\w*|__[a-z]+__", name), (file, name))
                self.assertNotIn(name, UNUSED, file)
                self.assertNotIn(name, dir(builtins), file)

    def test_names_at_module_level_are_bound_once_and_not_hidden(self):
        for file, tree in trees():
            bound = [one.name for one in tree.body if isinstance(one, (ast.FunctionDef, ast.ClassDef))]
            bound += [one.targets[0].id for one in tree.body if isinstance(one, ast.Assign)]
            imported = [one.name for node in of_kind(tree, ast.ImportFrom) for one in node.names]
            self.assertEqual(len(bound + imported), len(set(bound + imported)), file)
            classes = [one.name for one in of_kind(tree, ast.ClassDef)]
            for function in functions(tree):
                within = [node.id for node in of_kind(function, ast.Name) if isinstance(node.ctx, ast.Store)]
                within += [one.arg for one in of_kind(function, ast.arg)]
                self.assertFalse(set(within) & set(imported + classes), (file, function.name))

    def test_module_level_and_statements(self):
        for file, tree in trees():
            for node in tree.body:
                self.assertIsInstance(node, (ast.FunctionDef, ast.ClassDef, ast.Assign, ast.ImportFrom, ast.Expr), file)
                if isinstance(node, ast.Expr):
                    self.assertIsInstance(node.value, ast.Constant, file)
            for node in of_kind(tree, ast.stmt):
                self.assertIsInstance(node, STATEMENTS, (file, node.lineno))
                if isinstance(node, ast.Expr):
                    self.assertIsInstance(node.value, (ast.Call, ast.Constant), (file, node.lineno))

    def test_values_and_signs(self):
        for file, tree in trees():
            self.assertEqual(of_kind(tree, ast.GeneratorExp, ast.Yield, ast.YieldFrom, ast.Div, ast.Pow, ast.NamedExpr), [])
            for node in of_kind(tree, ast.Constant):
                self.assertIn(type(node.value), (int, str, bool, type(None)), (file, node.lineno))
                self.assertNotIn("%", str(node.value), (file, node.lineno))
            for node in of_kind(tree, ast.Compare):
                for sign, other in zip(node.ops, node.comparators):
                    if isinstance(sign, (ast.Is, ast.IsNot)):
                        self.assertIsInstance(other, ast.Constant, (file, node.lineno))
                        self.assertIn(other.value, (None, True, False), (file, node.lineno))

    def test_calls(self):
        methods = own_methods()
        for file, tree in trees():
            for node in of_kind(tree, ast.Name):
                if isinstance(node.ctx, ast.Load) and node.id in dir(builtins):
                    self.assertIn(node.id, BUILTINS, (file, node.lineno))
                    if node.id not in ("int", "str", "bool", "list", "tuple", "dict") and node.id[0].islower():
                        self.assertTrue(isinstance(node.up, ast.Call) and node.up.func == node, (file, node.lineno))
            for node in of_kind(tree, ast.Call):
                if isinstance(node.func, ast.Attribute):
                    self.assertIn(node.func.attr, METHODS | methods | {"__init__"}, (file, node.lineno))
                    if node.func.attr not in methods:
                        self.assertEqual(node.keywords, [], (file, node.lineno))
                elif called(node) in BUILTINS:
                    self.assertLessEqual({one.arg for one in node.keywords}, KEYWORDS.get(called(node), set()))

    def test_methods_and_attributes(self):
        methods, attributes = own_methods(), assigned_attributes()
        self.assertEqual(methods & attributes, set())
        for file, tree in trees():
            for node in of_kind(tree, ast.Attribute):
                if isinstance(node.ctx, ast.Load) and not (isinstance(node.up, ast.Call) and node.up.func == node):
                    self.assertIn(node.attr, attributes, (file, node.lineno))

    def test_what_is_iterated_at_once(self):
        for file, tree in trees():
            for node in of_kind(tree, ast.Call):
                lazy = isinstance(node.func, ast.Attribute) and node.func.attr in ("items", "keys", "values")
                if lazy or called(node) in LAZY:
                    up = node.up
                    fits = isinstance(up, (ast.For, ast.comprehension)) and up.iter == node
                    fits = fits or called(up) in TAKERS
                    self.assertTrue(fits, (file, node.lineno))

    def test_what_stands_in_finally(self):
        for file, tree in trees():
            for node in of_kind(tree, ast.Try):
                self.assertEqual(node.handlers, [], (file, node.lineno))
                for one in node.finalbody:
                    fits = isinstance(one, ast.Assign) and len(one.targets) == 1
                    if isinstance(one, ast.Expr) and isinstance(one.value, ast.Call):
                        fits = isinstance(one.value.func, ast.Attribute) and one.value.func.attr == "append"
                    self.assertTrue(fits, (file, one.lineno))
                    values = one.value.args if isinstance(one, ast.Expr) else [one.value]
                    for inner in [inner for value in values for inner in ast.walk(value)]:
                        plain = (ast.Name, ast.Attribute, ast.Constant, ast.Tuple, ast.List, ast.Load)
                        self.assertIsInstance(inner, plain, (file, one.lineno))

    def test_lambdas_on_one_line_have_parameters_of_other_names(self):
        for file, tree in trees():
            told = [(node.lineno, [one.arg for one in node.args.args]) for node in of_kind(tree, ast.Lambda)]
            self.assertTrue(all(told.count(one) == 1 for one in told), file)

    def test_values_at_module_level_are_plain_and_no_list_stands_in_another(self):
        plain = (ast.Constant, ast.Tuple, ast.List, ast.Dict, ast.Load, ast.UnaryOp, ast.USub)
        for file, tree in trees():
            for node in [one for one in tree.body if isinstance(one, ast.Assign)]:
                inner = list(ast.walk(node.value))
                self.assertTrue(all(isinstance(one, plain) for one in inner), (file, node.lineno))
                self.assertFalse(any(isinstance(one, (ast.List, ast.Dict)) for one in inner[1:]), (file, node.lineno))

    def test_sets_stand_where_they_may(self):
        for file, tree in trees():
            for node in of_kind(tree, ast.Call, ast.SetComp, ast.Set):
                if not isinstance(node, ast.Call) or called(node) == "set":
                    up = node.up
                    while isinstance(up, ast.BinOp):
                        up = up.up
                    fits = isinstance(up, ast.Compare) or called(up) in ("sorted", "len") and not up.keywords
                    self.assertTrue(fits, (file, node.lineno))

    def test_the_folder_holds_nothing_else(self):
        others = [path for path in FOLDER.rglob("*") if path.suffix not in (".py", ".pyc") and path.name != "__pycache__"]
        self.assertEqual(others, [])


if __name__ == "__main__":
    unittest.main()
