"""What the rules of the language and of the interface ask of the package's files."""

import ast
import pathlib
import unittest

import grudgecote

FOLDER = pathlib.Path(grudgecote.__file__).parent
# Who sleeps is the one argument behind a star; True where a function takes it.
FUNCTIONS = {
    "standings.py": {
        "is_standing": (["thing"], False),
        "uppermost": (["standing", "dove"], False),
        "held": (["standing", "dove", "about"], False),
        "grudges_in": (["standing"], False),
        "called": (["standing", "order"], False),
        "beside": (["one", "other"], False),
    },
    "pecks.py": {
        "pecked": (["standing", "dove"], True),
        "gone": (["standing", "row"], True),
        "backwards": (["standing", "row"], True),
    },
    "lines.py": {
        "line": (["standing", "one", "other"], False),
        "cut": (["standing", "one", "other"], False),
        "lines_of": (["standing"], False),
        "first_unlike": (["one", "other"], False),
    },
    "still.py": {
        "still": (["one", "other"], True),
        "first_moved": (["one", "other"], True),
    },
    "givings.py": {
        "givings": (["one", "other"], True),
        "waits": (["one", "other"], True),
    },
    "between.py": {
        "between": (["one", "other"], True),
    },
    "checks.py": {
        "shows_row": (["one", "other", "thing"], True),
        "shows_bar": (["one", "other", "thing"], True),
    },
    "counting.py": {
        "how_many": (["standing"], False),
        "nth": (["standing", "number"], False),
        "number_of": (["standing", "other"], False),
    },
    "wishes.py": {
        "is_wish": (["standing", "thing"], False),
        "wish_bar": (["standing", "wish"], False),
        "granted": (["standing", "wish"], False),
        "how_many_so": (["standing", "wish"], False),
    },
    "sleepers.py": {
        "given_bar": (["standing", "wish"], True),
        "given_row": (["standing", "wish"], True),
        "heaps_many": (["standing", "dove"], True),
    },
    "peace.py": {
        "may_make": (["standing"], False),
        "left_of": (["words"], False),
        "left_in_end": (["standing"], False),
        "done": (["standing", "deeds"], False),
        "to_the_end": (["standing"], False),
        "struck": (["words", "other"], False),
        "may_come": (["one", "other"], False),
    },
    "few.py": {
        "at_least": (["one", "other"], False),
        "least_row": (["one", "other"], True),
    },
    "texts.py": {
        "standing_text": (["standing"], False),
        "standing_in": (["text"], False),
    },
    "desk.py": {
        "run": (["text"], False),
    },
}
METHODS = {
    "__init__": (["standing"], True),
    "peck": (["dove"], False),
    "go": (["row"], False),
    "peace": (["one", "other"], False),
    "lay": (["dove", "about", "word"], False),
    "sleep": (["dove"], False),
    "wake": (["dove"], False),
    "undo": ([], False),
    "standing": ([], False),
    "asleep": ([], False),
    "told": (["standing"], False),
    "deeds": ([], False),
    "log": ([], False),
    "as_of": (["many"], False),
    "twin": ([], False),
    "__len__": ([], False),
    "__eq__": (["other"], False),
    "__repr__": ([], False),
}


# What the rules of the language let the package import from Python itself, so far as it is wanted.
LIBRARY = {"math": ["comb"]}


def files():
    """Each file of the package: its name, its text, its tree."""
    for path in sorted(FOLDER.glob("*.py")):
        text = path.read_text(encoding="utf-8")
        yield path.name, text, ast.parse(text)


class Form(unittest.TestCase):

    def test_the_folder_holds_python_files_alone(self):
        names = [path.name for path in FOLDER.iterdir() if path.name != "__pycache__"]
        self.assertIn("__init__.py", names)
        self.assertEqual([name for name in names if not name.endswith(".py")], [])

    def test_signs_and_sizes(self):
        for name, text, tree in files():
            rows = text.split("\n")
            self.assertTrue(all(sign == "\n" or " " <= sign <= "~" for sign in text), name)
            self.assertLessEqual(len(rows), 400, name)
            self.assertLessEqual(max(len(row) for row in rows), 120, name)
            for node in ast.walk(tree):
                if isinstance(node, ast.FunctionDef):
                    self.assertLessEqual(node.end_lineno - node.lineno + 1, 40, (name, node.name))

    def test_imports_are_of_the_package_and_of_the_library_alone(self):
        for name, _, tree in files():
            for node in ast.walk(tree):
                self.assertNotIsInstance(node, ast.Import, name)
                if isinstance(node, ast.ImportFrom):
                    self.assertEqual(node.level, 0, name)
                    own = node.module.startswith("grudgecote.")
                    for word in node.names:
                        self.assertIsNone(word.asname, (name, word.name))
                        self.assertTrue(own or word.name in LIBRARY.get(node.module, []), (name, word.name))

    def test_no_percent_sign_in_a_text_and_no_float(self):
        for name, _, tree in files():
            for node in ast.walk(tree):
                if isinstance(node, ast.Constant):
                    self.assertNotIsInstance(node.value, float, name)
                    self.assertNotIn("%", str(node.value), name)

    def test_no_generators_beside_a_class_that_compares(self):
        for name, _, tree in files():
            for node in ast.walk(tree):
                self.assertNotIsInstance(node, (ast.GeneratorExp, ast.Yield, ast.YieldFrom), name)

    def takes(self, node, words, sleepers):
        """What a function is handed, by these names; who sleeps behind a star, and nobody where it's left out."""
        handed = node.args
        self.assertEqual([word.arg for word in handed.args], words, node.name)
        self.assertEqual([word.arg for word in handed.kwonlyargs], ["asleep"] * sleepers, node.name)
        self.assertEqual([ast.unparse(worth) for worth in handed.kw_defaults], ["()"] * sleepers, node.name)
        self.assertEqual(handed.defaults, [], node.name)

    def test_functions_stand_where_the_interface_lists_them(self):
        trees = {name: tree for name, _, tree in files()}
        for name, functions in FUNCTIONS.items():
            defined = {node.name: node for node in trees[name].body if isinstance(node, ast.FunctionDef)}
            for function, (words, sleepers) in functions.items():
                self.takes(defined[function], words, sleepers)

    def test_the_cote_and_its_methods_stand_where_the_interface_lists_them(self):
        trees = {name: tree for name, _, tree in files()}
        classes = [node for node in trees["cote.py"].body if isinstance(node, ast.ClassDef)]
        self.assertEqual([node.name for node in classes], ["Cote"])
        self.assertEqual(classes[0].bases, [])
        defined = {node.name: node for node in classes[0].body if isinstance(node, ast.FunctionDef)}
        for method, (words, sleepers) in METHODS.items():
            self.takes(defined[method], ["self"] + words, sleepers)


if __name__ == "__main__":
    unittest.main()
