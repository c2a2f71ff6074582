"""What the document's interface and LANGUAGE.md say of the package's files, as far as a test sees it."""

import ast
import builtins
import pathlib
import unittest
import warnings

FOLDER = pathlib.Path(__file__).resolve().parent.parent / "roundnews"

INTERFACE = {
    "rounds.py": {"reach": 1, "ahead": 3, "is_newer": 3, "on_from": 3, "in_order": 2, "bar_of": 2, "window": 2},
    "roundcheck.py": {"shows_order": 3, "shows_bar": 3},
    "news.py": {
        "is_words": 1, "is_news": 2, "sum_of": 1, "mark_of": 1, "newer_mark": 3, "newest": 2, "aged": 3,
    },
    "makes.py": {"is_make": 1, "most_alive": 1, "jump": 1, "is_safe": 1, "least_round": 2},
    "exchange.py": {"exchange": 3, "after": 4},
    "nets.py": {"is_net": 1, "near": 3, "parts": 2, "far": 3, "hops": 3},
    "waves.py": {"waves": 5, "last_wave": 4},
    "trails.py": {"told_at": 2, "last_taken": 3, "trail": 3, "first_wrong": 1},
    "trailcheck.py": {"shows_trail": 5},
    "calm.py": {"is_settled": 4, "calm": 3, "speaks_by": 3},
    "texts.py": {"news_text": 1, "news_from": 2, "net_text": 1, "net_from": 1},
    "desk.py": {"answers": 1},
}
# How many arguments each method takes beside its own object; of __init__ those of the class.
CLASSES = {
    ("books.py", "Book"): {
        "__init__": 2, "take": 1, "tick": 1, "held": 0, "news_of": 1, "marks": 0, "better": 1, "wanted": 1, "twin": 0,
    },
    ("houses.py", "House"): {
        "__init__": 3, "join": 1, "part": 1, "wish": 1, "speak": 0, "lists": 0, "hear": 2, "tick": 0, "number": 0,
        "own": 0, "has_wish": 0, "neighbours": 0, "held": 0,
    },
    ("runs.py", "Run"): {
        "__init__": 3, "step": 1, "now": 0, "log": 0, "held": 1, "number": 1, "up": 0, "sent": 0, "under_way": 0,
    },
}
# What may be imported from elsewhere.
LIBRARY = {"heapq": {"heappush", "heappop"}}
ERRORS = {
    "NewsError": "ValueError", "NoHouse": "NewsError", "NoStreet": "NewsError", "BadText": "NewsError",
    "BadRow": "NewsError",
}


def files():
    return sorted(FOLDER.glob("**/*.py"))


def tree_of(path):
    with warnings.catch_warnings():
        warnings.simplefilter("error")
        return ast.parse(path.read_text(encoding="ascii"))


def bound_names(tree):
    """All names that a file gives to functions, classes, parameters and variables."""
    for node in ast.walk(tree):
        if isinstance(node, (ast.FunctionDef, ast.ClassDef)):
            yield node.name
        if isinstance(node, ast.arg):
            yield node.arg
        if isinstance(node, ast.Name) and not isinstance(node.ctx, ast.Load):
            yield node.id


class Interface(unittest.TestCase):
    def test_functions_are_defined_in_their_files(self):
        for name, wanted in INTERFACE.items():
            body = tree_of(FOLDER / name).body
            found = {node.name: node for node in body if isinstance(node, ast.FunctionDef)}
            for word, many in wanted.items():
                self.assertIn(word, found)
                self.assertEqual(len(found[word].args.args), many, word)

    def test_classes_and_their_methods_are_defined_in_their_files(self):
        for (name, word), wanted in CLASSES.items():
            found = {node.name: node for node in tree_of(FOLDER / name).body if isinstance(node, ast.ClassDef)}
            self.assertIn(word, found)
            methods = {node.name: node for node in found[word].body if isinstance(node, ast.FunctionDef)}
            for method, many in wanted.items():
                self.assertIn(method, methods, word)
                self.assertEqual(len(methods[method].args.args), 1 + many, (word, method))

    def test_errors_are_defined_in_their_file(self):
        body = tree_of(FOLDER / "errors.py").body
        found = {node.name: [base.id for base in node.bases] for node in body if isinstance(node, ast.ClassDef)}
        self.assertEqual(found, {name: [base] for name, base in ERRORS.items()})


class Language(unittest.TestCase):
    def test_the_folder_holds_python_files_alone(self):
        others = [path for path in FOLDER.glob("**/*") if path.is_file() and path.suffix not in (".py", ".pyc")]
        self.assertEqual(others, [])
        self.assertTrue((FOLDER / "__init__.py").is_file())

    def test_sizes_and_signs(self):
        for path in files():
            text = path.read_text(encoding="utf-8")
            rows = text.split("\n")
            self.assertLessEqual(len(rows), 400, path)
            self.assertTrue(all(len(row) <= 120 for row in rows), path)
            self.assertTrue(all(sign == "\n" or " " <= sign <= "~" for sign in text), path)

    def test_functions_are_small(self):
        for path in files():
            for node in ast.walk(tree_of(path)):
                if isinstance(node, ast.FunctionDef):
                    self.assertLessEqual(node.end_lineno - node.lineno + 1, 40, (path, node.name))

    def test_no_percent_sign_in_a_string(self):
        for path in files():
            for node in ast.walk(tree_of(path)):
                if isinstance(node, ast.Constant) and isinstance(node.value, str):
                    self.assertNotIn("%", node.value, path)

    def test_no_name_of_a_builtin_is_given_away(self):
        for path in files():
            given = set(bound_names(tree_of(path)))
            self.assertEqual(given & set(dir(builtins)), set(), path)

    def test_no_name_of_an_import_or_a_class_is_given_away(self):
        for path in files():
            tree = tree_of(path)
            taken = [alias.name for node in tree.body if isinstance(node, ast.ImportFrom) for alias in node.names]
            taken += [node.name for node in tree.body if isinstance(node, ast.ClassDef)]
            given = list(bound_names(tree))
            for word in taken:
                own = sum(1 for node in tree.body if isinstance(node, ast.ClassDef) and node.name == word)
                self.assertEqual(given.count(word), own, (path, word))

    def test_no_name_is_a_method_and_an_attribute(self):
        for path in files():
            for node in ast.walk(tree_of(path)):
                if isinstance(node, ast.ClassDef):
                    methods = {part.name for part in node.body if isinstance(part, ast.FunctionDef)}
                    stored = {
                        part.attr for part in ast.walk(node)
                        if isinstance(part, ast.Attribute) and isinstance(part.ctx, ast.Store)
                    }
                    self.assertEqual(methods & stored, set(), (path, node.name))

    def test_no_two_files_import_from_each_other(self):
        leads = {}
        for path in files():
            found = [node.module for node in ast.walk(tree_of(path)) if isinstance(node, ast.ImportFrom)]
            leads["roundnews." + path.stem] = found
        while leads:
            # Those that import from none of the ones left over.
            free = [name for name, found in leads.items() if not set(found) & set(leads)]
            self.assertTrue(free, leads)
            leads = {name: found for name, found in leads.items() if name not in free}

    def test_imports_are_of_the_package(self):
        for path in files():
            for node in ast.walk(tree_of(path)):
                self.assertNotIsInstance(node, ast.Import, path)
                if isinstance(node, ast.ImportFrom):
                    self.assertEqual(node.level, 0, path)
                    names = {alias.name for alias in node.names if alias.asname is None}
                    self.assertEqual(len(names), len(node.names), path)
                    if not node.module.startswith("roundnews."):
                        self.assertLessEqual(names, LIBRARY.get(node.module, set()), path)
                        self.assertIn(node.module, LIBRARY, path)


if __name__ == "__main__":
    unittest.main()
