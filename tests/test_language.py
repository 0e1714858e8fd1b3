"""Rules of the language that a test can see: files, names, sizes, imports, builtins, methods."""

import ast
import builtins
import os
import re
import unittest

FOLDER = os.path.join(os.path.dirname(os.path.dirname(os.path.abspath(__file__))), "dropframes")

BUILTINS = set((
    "len range enumerate zip min max sum abs sorted reversed int str bool list tuple dict set isinstance ord repr "
    "any all divmod super property staticmethod classmethod iter next map Exception ValueError TypeError KeyError "
    "IndexError LookupError ZeroDivisionError NotImplementedError NotImplemented").split())

METHODS = set((
    "append clear copy count endswith extend find get index insert isalnum isalpha isdigit islower isspace "
    "isupper items join keys ljust lower lstrip partition pop remove replace reverse rfind rjust rpartition "
    "rsplit rstrip setdefault split splitlines startswith strip update upper values zfill bit_length add discard "
    "sort isascii isdecimal removeprefix removesuffix __init__").split())

BARRED = set((
    "register mro elements open input law version_info with_traceback add_note eval exec globals locals vars").split())

WORDS = (
    r"\b(type|typing|enum|Enum|ABC|namedtuple|NamedTuple|TypedDict|abstractmethod)\b"
    r"|dataclass|overload|contextmanager")

# What may be imported from elsewhere.
LIBRARY = {"itertools": ["combinations", "permutations", "product"], "math": ["gcd"]}

STATEMENTS = (ast.Expr, ast.ImportFrom, ast.FunctionDef, ast.ClassDef, ast.Assign)

NOT_ALLOWED = (
    ast.Import, ast.AsyncFunctionDef, ast.AsyncFor, ast.AsyncWith, ast.Await, ast.Global, ast.Div,
    ast.TryStar)


def read(name):
    with open(os.path.join(FOLDER, name), encoding="utf-8", newline="") as file:
        return file.read()


def modules():
    """Return the file names of the package."""
    return sorted(name for name in os.listdir(FOLDER) if name != "__pycache__")


def trees():
    return {name: ast.parse(read(name)) for name in modules()}


def defined(tree):
    """Return the names that a file binds itself."""
    found = [part.name for part in tree.body if isinstance(part, (ast.FunctionDef, ast.ClassDef))]
    return found + [target.id for part in tree.body if isinstance(part, ast.Assign) for target in part.targets]


class Language(unittest.TestCase):
    def test_files(self):
        for name in modules():
            with self.subTest(name):
                self.assertTrue(re.fullmatch(r"[a-z][a-z0-9_]*\.py|__init__\.py", name))
                self.assertEqual(re.findall(r"[^ -~\n]", read(name)), [])

    def test_sizes(self):
        for name, tree in trees().items():
            lines = read(name).split("\n")
            self.assertLessEqual(len(lines), 400, name)
            self.assertLessEqual(max(len(line) for line in lines), 120, name)
            for part in ast.walk(tree):
                if isinstance(part, ast.FunctionDef):
                    self.assertLessEqual(part.end_lineno - part.lineno + 1, 40, (name, part.name))

    def test_imports(self):
        files = trees()
        for name, tree in files.items():
            for part in ast.walk(tree):
                if isinstance(part, ast.ImportFrom):
                    with self.subTest(name, line=part.lineno):
                        self.assertIn(part, tree.body)
                        if part.module in LIBRARY:
                            for alias in part.names:
                                self.assertIn(alias.name, LIBRARY[part.module])
                                self.assertIsNone(alias.asname)
                            continue
                        package, file = part.module.split(".")
                        self.assertEqual([package, part.level], ["dropframes", 0])
                        for alias in part.names:
                            self.assertIn(alias.name, defined(files[file + ".py"]))
                            self.assertIsNone(alias.asname)

    def test_no_two_files_import_from_each_other(self):
        needs = {
            name: {part.module.split(".")[-1] + ".py" for part in tree.body if isinstance(part, ast.ImportFrom)}
            for name, tree in trees().items()}
        while needs:
            free = [name for name in needs if not needs[name] & set(needs)]
            self.assertNotEqual(free, [], needs)
            needs = {name: needs[name] for name in needs if name not in free}

    def test_module_level(self):
        for name, tree in trees().items():
            for part in tree.body:
                self.assertIsInstance(part, STATEMENTS, (name, part.lineno))
                if isinstance(part, ast.Expr):
                    self.assertIs(part, tree.body[0], (name, part.lineno))
                if isinstance(part, ast.Assign):
                    ast.literal_eval(part.value)
            self.assertEqual(len(defined(tree)), len(set(defined(tree))), name)

    def test_names(self):
        for name, tree in trees().items():
            imported = [alias.name for part in tree.body if isinstance(part, ast.ImportFrom) for alias in part.names]
            classes = [part.name for part in tree.body if isinstance(part, ast.ClassDef)]
            for part in ast.walk(tree):
                bound = None
                if isinstance(part, ast.arg):
                    bound = part.arg
                if isinstance(part, ast.Name) and isinstance(part.ctx, ast.Store):
                    bound = part.id
                if isinstance(part, ast.Name) and isinstance(part.ctx, ast.Load) and hasattr(builtins, part.id):
                    self.assertIn(part.id, BUILTINS, (name, part.lineno))
                if bound is not None:
                    self.assertNotIn(bound, imported + classes + dir(builtins), (name, part.lineno))
                for word in [bound, getattr(part, "attr", None), getattr(part, "name", None)]:
                    self.assertNotIn(word, BARRED, name)

    def test_statements_and_methods(self):
        own = {
            part.name for tree in trees().values() for part in ast.walk(tree) if isinstance(part, ast.FunctionDef)}
        for name, tree in trees().items():
            for part in ast.walk(tree):
                where = (name, getattr(part, "lineno", None))
                self.assertNotIsInstance(part, NOT_ALLOWED, where)
                if isinstance(part, ast.Constant):
                    self.assertIsInstance(part.value, (int, str, type(None)), where)
                if isinstance(part, ast.Call) and isinstance(part.func, ast.Attribute):
                    self.assertIn(part.func.attr, METHODS | own, where)
                if isinstance(part, ast.ClassDef):
                    self.assertEqual(part.decorator_list, [], where)

    def test_words(self):
        for name, tree in trees().items():
            strings = {id(part.body[0].value) for part in ast.walk(tree)
                       if isinstance(part, (ast.Module, ast.FunctionDef, ast.ClassDef)) and ast.get_docstring(part)}
            for part in ast.walk(tree):
                if isinstance(part, ast.Constant) and isinstance(part.value, str) and id(part) not in strings:
                    self.assertIsNone(re.search(WORDS, part.value), (name, part.lineno))
                    self.assertNotIn("%", part.value, (name, part.lineno))


if __name__ == "__main__":
    unittest.main()
