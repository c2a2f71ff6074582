"""What the document's interface and LANGUAGE.md say of the package's files, as far as a test sees it."""

import ast
import builtins
import pathlib
import unittest
import warnings

FOLDER = pathlib.Path(__file__).resolve().parent.parent / "roundnews"

INTERFACE = {
    "rounds.py": {"reach": 1, "ahead": 3, "is_newer": 3, "on_from": 3, "in_order": 2, "bar_of": 2, "window": 2},
    "roundcheck.py": {"shows_order": 3, "shows_bar": 3},
    "news.py": {
        "is_words": 1, "is_news": 2, "sum_of": 1, "mark_of": 1, "newer_mark": 3, "newest": 2, "aged": 3,
    },
}
ERRORS = {
    "NewsError": "ValueError", "NoHouse": "NewsError", "NoStreet": "NewsError", "BadText": "NewsError",
    "BadRow": "NewsError",
}


def files():
    return sorted(FOLDER.glob("**/*.py"))


def tree_of(path):
    with warnings.catch_warnings():
        warnings.simplefilter("error")
        return ast.parse(path.read_text(encoding="ascii"))


def bound_names(tree):
    """All names that a file gives to functions, classes, parameters and variables."""
    for node in ast.walk(tree):
        if isinstance(node, (ast.FunctionDef, ast.ClassDef)):
            yield node.name
        if isinstance(node, ast.arg):
            yield node.arg
        if isinstance(node, ast.Name) and not isinstance(node.ctx, ast.Load):
            yield node.id


class Interface(unittest.TestCase):
    def test_functions_are_defined_in_their_files(self):
        for name, wanted in INTERFACE.items():
            body = tree_of(FOLDER / name).body
            found = {node.name: node for node in body if isinstance(node, ast.FunctionDef)}
            for word, many in wanted.items():
                self.assertIn(word, found)
                self.assertEqual(len(found[word].args.args), many, word)

    def test_errors_are_defined_in_their_file(self):
        body = tree_of(FOLDER / "errors.py").body
        found = {node.name: [base.id for base in node.bases] for node in body if isinstance(node, ast.ClassDef)}
        self.assertEqual(found, {name: [base] for name, base in ERRORS.items()})


class Language(unittest.TestCase):
    def test_the_folder_holds_python_files_alone(self):
        others = [path for path in FOLDER.glob("**/*") if path.is_file() and path.suffix not in (".py", ".pyc")]
        self.assertEqual(others, [])
        self.assertTrue((FOLDER / "__init__.py").is_file())

    def test_sizes_and_signs(self):
        for path in files():
            text = path.read_text(encoding="utf-8")
            rows = text.split("\n")
            self.assertLessEqual(len(rows), 400, path)
            self.assertTrue(all(len(row) <= 120 for row in rows), path)
            self.assertTrue(all(sign == "\n" or " " <= sign <= "~" for sign in text), path)

    def test_functions_are_small(self):
        for path in files():
            for node in ast.walk(tree_of(path)):
                if isinstance(node, ast.FunctionDef):
                    self.assertLessEqual(node.end_lineno - node.lineno + 1, 40, (path, node.name))

    def test_no_percent_sign_in_a_string(self):
        for path in files():
            for node in ast.walk(tree_of(path)):
                if isinstance(node, ast.Constant) and isinstance(node.value, str):
                    self.assertNotIn("%", node.value, path)

    def test_no_name_of_a_builtin_is_given_away(self):
        for path in files():
            given = set(bound_names(tree_of(path)))
            self.assertEqual(given & set(dir(builtins)), set(), path)

    def test_imports_are_of_the_package(self):
        for path in files():
            for node in ast.walk(tree_of(path)):
                self.assertNotIsInstance(node, ast.Import, path)
                if isinstance(node, ast.ImportFrom):
                    self.assertEqual(node.level, 0, path)
                    self.assertTrue(node.module.startswith("roundnews."), path)


if __name__ == "__main__":
    unittest.main()
