"""The package's files keep to the rules of its Python subset that can be seen file by file."""

import ast
import builtins
import pathlib
import re
import unittest

PACKAGE = pathlib.Path(__file__).resolve().parent.parent / "eitherslack"
FILES = sorted(PACKAGE.glob("*.py"))
INTERFACE = {
    "errors": [
        "SlackError", "NoNumber", "NoTable", "NoRow", "NoChoice", "Flat", "NoSaying", "Lifted",
        "NoCover", "Dipped", "NotOne", "NoText", "NoLine", "NoName",
    ],
    "numbers": ["lowest", "total", "product", "below"],
    "choices": ["choices", "choice_number", "choice_at"],
    "tables": ["Table"],
    "answers": ["gaps", "fits", "is_answer", "answer_by", "all_answers"],
    "exchanges": ["exchanged", "exchanged_start", "exchanged_presses"],
    "judge": ["judge"],
    "finder": ["settled"],
    "least": ["least_answer", "least_holds"],
    "ways": ["Way", "way", "level_answer"],
    "signs": ["turning", "clean"],
    "lines": ["along", "answer_at"],
    "texts": ["row_text", "saying_text", "paper_text", "read_row", "read_table", "read_saying", "read_paper"],
    "desk": ["Desk"],
}
METHODS = {
    "Table": ["__len__", "__eq__", "__str__", "__repr__", "rows", "times", "turned", "cut", "minor", "minors"],
    "Way": ["__len__", "__eq__", "__str__", "steps", "answer", "ray"],
    "Desk": ["tell"],
}
BUILTINS = {
    "len", "range", "enumerate", "zip", "min", "max", "sum", "abs", "sorted", "reversed", "int", "str", "bool",
    "list", "tuple", "dict", "set", "isinstance", "ord", "repr", "any", "all", "divmod", "super", "ValueError",
}
BARRED_WORDS = (
    r"\b(type|typing|typing_extensions|enum|Enum|IntEnum|StrEnum|Flag|IntFlag|Generic|Protocol|ABC"
    r"|ABCMeta|namedtuple|NamedTuple|TypedDict|TYPE_CHECKING|abstractmethod)\b"
    r"|dataclass|overload|contextmanager"
)
FORBIDDEN_NODES = (
    ast.Global, ast.AsyncFunctionDef, ast.AsyncFor, ast.AsyncWith, ast.Await, ast.Import, ast.Div,
    # Since a class has an __eq__, any, all and the like take lists.
    ast.GeneratorExp,
)


def each_file():
    for path in FILES:
        text = path.read_text(encoding="utf-8")
        yield path.name, text, ast.parse(text)


def names_in(tree):
    for node in ast.walk(tree):
        if isinstance(node, ast.Name):
            yield node.id
        elif isinstance(node, ast.arg):
            yield node.arg
        elif isinstance(node, ast.Attribute):
            yield node.attr
        elif isinstance(node, (ast.FunctionDef, ast.ClassDef)):
            yield node.name


class LanguageTest(unittest.TestCase):
    def test_the_folder_holds_plain_files_alone(self):
        found = [path for path in PACKAGE.iterdir() if path.name != "__pycache__"]
        self.assertEqual(sorted(found), FILES)
        self.assertIn(PACKAGE / "__init__.py", FILES)
        for path in FILES:
            self.assertRegex(path.name, r"^([a-z][a-z0-9_]*|__init__|__main__)\.py$")

    def test_sizes(self):
        for file, text, tree in each_file():
            lines = text.split("\n")
            self.assertLessEqual(len(lines), 399, file)
            self.assertLessEqual(max(len(line) for line in lines), 120, file)
            for node in ast.walk(tree):
                if isinstance(node, ast.FunctionDef):
                    self.assertLessEqual(node.end_lineno - node.lineno + 1, 40, (file, node.name))

    def test_characters_and_words(self):
        for file, text, tree in each_file():
            self.assertIsNone(re.search(r"[^ -~\n]", text), file)
            self.assertIsNone(re.search(BARRED_WORDS, text), file)

    def test_names(self):
        for file, text, tree in each_file():
            for name in names_in(tree):
                self.assertRegex(name, r"^([A-Za-z][A-Za-z0-9_]*|__[a-z]+__)$", file)

    def test_statements_and_numbers(self):
        for file, text, tree in each_file():
            for node in ast.walk(tree):
                self.assertNotIsInstance(node, FORBIDDEN_NODES, file)
                if isinstance(node, ast.Constant):
                    self.assertNotIsInstance(node.value, float, file)
                    self.assertFalse(isinstance(node.value, str) and "%" in node.value, file)

    def test_imports_come_from_the_package(self):
        for file, text, tree in each_file():
            for node in ast.walk(tree):
                if isinstance(node, ast.ImportFrom):
                    self.assertEqual(node.level, 0, file)
                    self.assertIn(node, tree.body, file)
                    self.assertTrue(node.module.startswith("eitherslack."), file)

    def test_builtins(self):
        for file, text, tree in each_file():
            for node in ast.walk(tree):
                if isinstance(node, ast.Name) and node.id in dir(builtins):
                    self.assertIsInstance(node.ctx, ast.Load, file)
                    self.assertIn(node.id, BUILTINS, file)
                elif isinstance(node, (ast.FunctionDef, ast.ClassDef)):
                    self.assertNotIn(node.name, dir(builtins), file)
                elif isinstance(node, ast.arg):
                    self.assertNotIn(node.arg, dir(builtins), file)

    def test_is_stands_beside_none_true_and_false_alone(self):
        for file, text, tree in each_file():
            for node in ast.walk(tree):
                if isinstance(node, ast.Compare):
                    for sign, other in zip(node.ops, node.comparators):
                        if isinstance(sign, (ast.Is, ast.IsNot)):
                            self.assertIsInstance(other, ast.Constant, file)
                            self.assertIn(other.value, (None, True, False), file)

    def test_no_variable_has_the_name_of_an_import(self):
        for file, text, tree in each_file():
            imported = [name.asname or name.name for node in tree.body if isinstance(node, ast.ImportFrom)
                        for name in node.names]
            self.assertEqual(len(imported), len(set(imported)), file)
            for node in ast.walk(tree):
                if isinstance(node, ast.Name) and isinstance(node.ctx, ast.Store):
                    self.assertNotIn(node.id, imported, file)
                elif isinstance(node, ast.arg):
                    self.assertNotIn(node.arg, imported, file)
            used = [node.id for node in ast.walk(tree) if isinstance(node, ast.Name)]
            for name in imported:
                self.assertIn(name, used, file)

    def test_no_name_is_a_method_and_an_attribute(self):
        methods, attributes = set(), set()
        for file, text, tree in each_file():
            for node in ast.walk(tree):
                if isinstance(node, ast.ClassDef):
                    methods |= {part.name for part in node.body if isinstance(part, ast.FunctionDef)}
                elif isinstance(node, ast.Attribute) and isinstance(node.ctx, ast.Store):
                    attributes.add(node.attr)
        self.assertEqual(methods & attributes, set())

    def test_methods_are_defined_in_their_classes(self):
        for file, text, tree in each_file():
            for node in tree.body:
                if isinstance(node, ast.ClassDef) and node.name in METHODS:
                    defined = [part.name for part in node.body if isinstance(part, ast.FunctionDef)]
                    for name in METHODS[node.name]:
                        self.assertEqual(defined.count(name), 1, (file, name))

    def test_the_interface_is_defined_in_its_files(self):
        for file, names in INTERFACE.items():
            tree = ast.parse((PACKAGE / (file + ".py")).read_text(encoding="utf-8"))
            defined = [
                node.name for node in tree.body if isinstance(node, (ast.FunctionDef, ast.ClassDef))
            ]
            for name in names:
                with self.subTest(file=file, name=name):
                    self.assertEqual(defined.count(name), 1)


if __name__ == "__main__":
    unittest.main()
