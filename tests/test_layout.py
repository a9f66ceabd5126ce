"""The interface as the document lists it, file by file, and the sizes that the code keeps to."""

import ast
import importlib
import inspect
import pathlib
import unittest

PACKAGE = pathlib.Path(__file__).resolve().parent.parent / "mailrings"

FUNCTIONS = {
    "names": {
        "is_name": "(value)", "is_subject": "(value)", "is_text": "(value)", "is_message": "(value)",
        "message_key": "(message)", "strange_name": "(names)", "with_mark": "(marks, mark)",
    },
    "conditions": {
        "is_condition": "(value)", "holds": "(condition, message)", "tests_of": "(condition)",
        "marks_of": "(condition)", "names_of": "(condition)",
    },
    "houses": {"is_rule": "(value)"},
    "arrivals": {"arrive": "(house, message)", "firing": "(house, message)", "after_hops": "(house, message, hops)"},
    "machines": {"house_tests": "(house)", "apart": "(tests, first, second)"},
    "kinds": {"asked_marks": "(house)", "known_names": "(house)"},
    "rings": {
        "first_endless": "(house)", "ring_from": "(house, message)", "is_ring": "(house, value)", "need_finite": "(house)",
        "is_rank_paper": "(house, value)", "rank_paper": "(house)",
    },
    "numbers": {
        "arrivals": "(house, message)", "filings": "(house, message)", "leavings": "(house, message)",
        "measure": "(house, message, what)",
    },
    "storms": {
        "growth": "(house, message)", "walked": "(house, message, places)", "storm_rings": "(house, message)",
        "are_storm_rings": "(house, message, value)", "count_after": "(house, message, hops)", "fewest_cuts": "(house)",
    },
    "wishes": {
        "is_wish": "(value)", "broken": "(house, wish)", "wish_holds": "(house, wish, message)",
        "broken_first": "(house, wishes)",
    },
    "firing": {"first_firing": "(house, name, place)", "firings": "(house, name)", "idle_rules": "(house)"},
    "alike": {
        "first_different": "(first, second)", "differing": "(first, second, message)", "spare_rules": "(house)",
        "changeable": "(house)", "simplified": "(house)",
    },
    "readers": {
        "readers": "(house, addresses, condition)", "way_to": "(house, message, name)",
        "is_way": "(house, value, name)", "first_leak": "(house, addresses, condition, name)",
    },
    "texts": {
        "condition_text": "(condition)", "rule_text": "(rule)", "house_text": "(house)", "message_text": "(message)",
        "read_condition": "(text)", "read_rule": "(text)", "read_house": "(text)", "read_message": "(text)",
    },
}

LIST = "(self, name, members, *, tag='', mark='', closed=False)"
CLASSES = {
    ("houses", "House"): {
        "__init__": "(self)", "add_mailbox": "(self, name, rules=())", "add_list": LIST, "add_alias": "(self, name, target)",
        "remove": "(self, name)", "set_rules": "(self, name, rules)", "set_list": LIST, "addresses": "property",
        "sort_of": "(self, name)", "rules_of": "(self, name)", "list_of": "(self, name)", "target_of": "(self, name)",
        "copied": "(self)", "__eq__": "(self, other)", "without_rule": "(self, name, place)",
        "with_rules_changed": "(self, name, place)", "with_cuts": "(self, cuts)",
    },
    ("machines", "Machine"): {
        "__init__": "(self, tests)", "subjects": "property", "least": "(self, subject)", "put": "(self, subject, text)",
        "results": "(self, subject)", "are_alike": "(self, first, second)",
    },
    ("kinds", "Kinds"): {
        "__init__": "(self, house, *, tests=(), names=(), marks=())", "kinds": "property", "kind": "(self, message)",
        "offspring": "(self, kind)",
    },
    ("works", "Work"): {
        "__init__": "(self, house)", "send": "(self, message)", "waiting": "(self)", "step": "(self, number)", "filed": "(self)",
        "left": "(self)", "house_now": "(self)", "change": "(self, house)", "expected": "(self)", "run": "(self, most)",
        "is_safe_change": "(self, house)", "back": "(self, many)",
    },
    ("console", "Console"): {"__init__": "(self)", "__call__": "(self, command)"},
}


class LayoutTest(unittest.TestCase):
    def test_the_interface(self):
        for file, functions in FUNCTIONS.items():
            module = importlib.import_module("mailrings." + file)
            for word, arguments in functions.items():
                with self.subTest(word):
                    function = getattr(module, word)
                    self.assertEqual(function.__module__, "mailrings." + file)
                    self.assertEqual(str(inspect.signature(function)), arguments)

    def test_the_classes(self):
        for (file, word), methods in CLASSES.items():
            own = getattr(importlib.import_module("mailrings." + file), word)
            self.assertEqual(own.__module__, "mailrings." + file)
            for method, arguments in methods.items():
                with self.subTest((word, method)):
                    found = vars(own)[method]
                    if arguments == "property":
                        self.assertIsInstance(found, property)
                    else:
                        self.assertEqual(str(inspect.signature(found)), arguments)

    def test_the_folder_contains_only_files_of_python(self):
        for path in PACKAGE.rglob("*"):
            if "__pycache__" not in path.parts:
                self.assertEqual(path.suffix, ".py", path)

    def test_sizes_and_characters(self):
        for path in PACKAGE.rglob("*.py"):
            with self.subTest(path.name):
                data = path.read_bytes()
                self.assertTrue(all(code == 10 or 32 <= code <= 126 for code in data))
                rows = data.decode("ascii").split("\n")
                self.assertLessEqual(len(rows), 399)
                self.assertLessEqual(max(len(row) for row in rows), 120)
                for node in ast.walk(ast.parse(data)):
                    if isinstance(node, ast.FunctionDef):
                        self.assertLessEqual(node.end_lineno - node.lineno + 1, 40, node.name)


if __name__ == "__main__":
    unittest.main()
