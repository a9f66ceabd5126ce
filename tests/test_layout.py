"""The interface as the document lists it, file by file, and the sizes that the code keeps to."""

import ast
import importlib
import inspect
import pathlib
import unittest

PACKAGE = pathlib.Path(__file__).resolve().parent.parent / "mailrings"

FUNCTIONS = {
    "names": {
        "is_name": "(value)", "is_subject": "(value)", "is_text": "(value)", "is_message": "(value)",
        "message_key": "(message)", "strange_name": "(names)", "with_mark": "(marks, mark)",
    },
    "conditions": {
        "is_condition": "(value)", "holds": "(condition, message)", "tests_of": "(condition)",
        "marks_of": "(condition)", "names_of": "(condition)",
    },
}


class LayoutTest(unittest.TestCase):
    def test_the_interface(self):
        for file, functions in FUNCTIONS.items():
            module = importlib.import_module("mailrings." + file)
            for word, arguments in functions.items():
                with self.subTest(word):
                    function = getattr(module, word)
                    self.assertEqual(function.__module__, "mailrings." + file)
                    self.assertEqual(str(inspect.signature(function)), arguments)

    def test_the_folder_contains_only_files_of_python(self):
        for path in PACKAGE.rglob("*"):
            if "__pycache__" not in path.parts:
                self.assertEqual(path.suffix, ".py", path)

    def test_sizes_and_characters(self):
        for path in PACKAGE.rglob("*.py"):
            with self.subTest(path.name):
                data = path.read_bytes()
                self.assertTrue(all(code == 10 or 32 <= code <= 126 for code in data))
                rows = data.decode("ascii").split("\n")
                self.assertLessEqual(len(rows), 399)
                self.assertLessEqual(max(len(row) for row in rows), 120)
                for node in ast.walk(ast.parse(data)):
                    if isinstance(node, ast.FunctionDef):
                        self.assertLessEqual(node.end_lineno - node.lineno + 1, 40, node.name)


if __name__ == "__main__":
    unittest.main()
