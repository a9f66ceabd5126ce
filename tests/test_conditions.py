"""Points [2], [5] and the tests, marks and names of [11]: conditions.py."""

import unittest

from mailrings.conditions import holds, is_condition, marks_of, names_of, tests_of
from mailrings.names import is_name, is_subject, is_text
from tests.values import OTHER_STRINGS, OTHER_VALUES

A = ("marked", "a")
ALWAYS = ("all", ())
NEVER = ("any", ())
SINGLES = (
    ("from", ("a",)), ("from", ("ann", "bob", "zed")), ("from", ("abcdefghijkl",)), ("contains", "a"),
    ("contains", "12345678"), ("begins", " "), ("begins", "12345678"), ("ends", "~"), ("ends", "12345678"),
    ("is", ""), ("is", "a"), ("is", "12345678"), A, ("marked", "abcdefghijkl"), ALWAYS, NEVER,
)


def deeper(condition, words):
    """Return a condition with others around it, one for each word, the last word outermost."""
    for word in words:
        condition = (word, condition) if word == "not" else (word, (A, condition))
    return condition


class IsConditionTest(unittest.TestCase):
    def test_singles(self):
        for value in SINGLES:
            with self.subTest(value):
                self.assertIs(is_condition(value), True)

    def test_depth(self):
        for value in SINGLES:
            for words in (["not"] * 3, ["all"] * 3, ["any"] * 3, ["not", "all", "any"], ["any", "not", "all"]):
                with self.subTest((value, words)):
                    self.assertIs(is_condition(deeper(value, words)), True)
                    for word in ("not", "all", "any"):
                        self.assertIs(is_condition(deeper(value, [*words, word])), False)

    def test_the_deepest_one_counts(self):
        four = deeper(A, ["not", "all", "any"])
        self.assertIs(is_condition(("all", (A, deeper(A, ["not", "not"]), ("not", A)))), True)
        for conditions in ((A, four), (four, A), (A, four, A), (four,)):
            with self.subTest(conditions):
                self.assertIs(is_condition(("any", conditions)), False)

    def test_very_deep(self):
        for words in (["not"] * 100, ["all"] * 100, ["not"] * 100000):
            self.assertIs(is_condition(deeper(A, words)), False)

    def test_eight_and_nine(self):
        for word in ("all", "any"):
            for many in range(0, 9):
                self.assertIs(is_condition((word, (A,) * many)), True)
            for many in (9, 10, 100):
                self.assertIs(is_condition((word, (A,) * many)), False)
            self.assertIs(is_condition(("not", (word, (A,) * 8))), True)
            self.assertIs(is_condition(("not", (word, (A,) * 9))), False)
            self.assertIs(is_condition((word, ((word, (A,) * 8),) * 8)), True)

    def test_characters(self):
        for word in ("contains", "begins", "ends"):
            for text in ("", "123456789", "%", "a%b", "a\n", "\u00e9"):
                with self.subTest((word, text)):
                    self.assertIs(is_condition((word, text)), False)
        for subject in ("123456789", "%", "a%b", "a\n", "\u00e9"):
            with self.subTest(subject):
                self.assertIs(is_condition(("is", subject)), False)

    def test_wrong_names(self):
        for names in (
            (), ("a", "a"), ("b", "a"), ("a", "c", "b"), ["a"], "a", "ab", {"a": 1}, ("a", 1), (1,), (True,), (None,),
            ("",), ("A",), ("abcdefghijklm",), (("a",),), (["a"],), None, True, 1,
        ):
            with self.subTest(names):
                self.assertIs(is_condition(("from", names)), False)

    def test_wrong_parts(self):
        for part in (*OTHER_VALUES, *OTHER_STRINGS):
            with self.subTest(part):
                self.assertIs(is_condition(("marked", part)), is_name(part))
                self.assertIs(is_condition(("contains", part)), is_text(part))
                self.assertIs(is_condition(("is", part)), is_subject(part) and len(part) <= 8)
                self.assertIs(is_condition(("not", part)), False)
                self.assertIs(is_condition(("all", part)), part == ())
                self.assertIs(is_condition(("any", part)), part == ())
                self.assertIs(is_condition(("all", (part,))), False)
                self.assertIs(is_condition(("any", (A, part))), False)

    def test_wrong_words(self):
        for word in (*OTHER_VALUES, *OTHER_STRINGS, "mark", "froms", "From", "contain", "NOT", "none", "all ", "i"):
            for part in (A, "a", ("a",), (A,), (), "", None):
                with self.subTest((word, part)):
                    self.assertIs(is_condition((word, part)), False)

    def test_another_length(self):
        for value in (
            (), ("all",), ("not",), ("marked",), ("marked", "a", "b"), ("all", (), ()), ("not", A, A), ("from", "a", "b"),
            ("from", ("a",), ("b",)), ("all", A, A), ("contains", "a", "b"), A + A,
        ):
            with self.subTest(value):
                self.assertIs(is_condition(value), False)

    def test_lists_in_the_place_of_tuples(self):
        for value in (
            ["marked", "a"], ["all", ()], ("all", []), ("any", [A]), ("not", ["marked", "a"]), ("all", (["marked", "a"],)),
            ["not", A], ("from", ["a"]), {"marked": "a"}, {"all": ()},
        ):
            with self.subTest(value):
                self.assertIs(is_condition(value), False)

    def test_other_values(self):
        for value in (*OTHER_VALUES, *OTHER_STRINGS, "al", "marked"):
            with self.subTest(value):
                self.assertIs(is_condition(value), False)

    def test_by_name(self):
        self.assertIs(is_condition(value=A), True)


class HoldsTest(unittest.TestCase):
    def check(self, condition, message, result):
        with self.subTest((condition, message)):
            self.assertIs(holds(condition, message), result)
            self.assertIs(holds(("not", condition), message), not result)

    def test_the_example(self):
        condition = ("all", (("begins", "re"), ("not", ("marked", "auto"))))
        self.check(condition, ("ann", "box", "re: hi", ()), True)
        self.check(condition, ("ann", "box", "re: hi", ("auto",)), False)

    def test_from(self):
        for sender, result in (("ann", True), ("bob", True), ("box", False), ("an", False), ("annb", False)):
            self.check(("from", ("ann", "bob")), (sender, "box", "ann", ("ann",)), result)
        self.check(("from", ("box",)), ("ann", "box", "box", ("box",)), False)

    def test_contains(self):
        for subject, result in (("", False), ("ab", True), ("xabx", True), ("a b", False), ("ba", False), ("AB", False)):
            self.check(("contains", "ab"), ("ab", "ab", subject, ("ab",)), result)
        self.check(("contains", "."), ("a", "a", "ab", ()), False)

    def test_begins(self):
        for subject, result in (("", False), ("ab", True), ("abx", True), ("xab", False), ("a", False), (" ab", False)):
            self.check(("begins", "ab"), ("ab", "ab", subject, ("ab",)), result)

    def test_ends(self):
        for subject, result in (("", False), ("ab", True), ("abx", False), ("xab", True), ("b", False), ("ab ", False)):
            self.check(("ends", "ab"), ("ab", "ab", subject, ("ab",)), result)

    def test_is(self):
        for subject, result in (("", False), ("ab", True), ("abx", False), ("xab", False), ("AB", False)):
            self.check(("is", "ab"), ("ab", "ab", subject, ("ab",)), result)
        self.check(("is", ""), ("a", "a", "", ()), True)
        self.check(("is", ""), ("a", "a", " ", ()), False)

    def test_marked(self):
        for marks, result in (((), False), (("a",), True), (("aa",), False), (("a", "b"), True), (("b", "c"), False)):
            self.check(("marked", "a"), ("a", "a", "a", marks), result)

    def test_all_and_any(self):
        message = ("ann", "box", "hi", ("b",))
        yes, no = ("is", "hi"), ("marked", "a")
        self.check(("all", ()), message, True)
        self.check(("any", ()), message, False)
        for inner in ((yes,), (yes, yes), (yes,) * 8):
            self.check(("all", inner), message, True)
            self.check(("any", inner), message, True)
        for inner in ((no,), (no, no), (no,) * 8):
            self.check(("all", inner), message, False)
            self.check(("any", inner), message, False)
        for inner in ((yes, no), (no, yes), (no, no, yes), (yes, no, yes), (yes, yes, no)):
            self.check(("all", inner), message, False)
            self.check(("any", inner), message, True)

    def test_nested(self):
        condition = ("any", (("all", (("from", ("ann",)), ("not", ("ends", "?")))), ("marked", "vip")))
        self.check(condition, ("ann", "box", "hi", ()), True)
        self.check(condition, ("ann", "box", "hi?", ()), False)
        self.check(condition, ("bob", "box", "hi", ()), False)
        self.check(condition, ("bob", "box", "hi?", ("vip",)), True)

    def test_beyond_the_limits(self):
        message = ("ann", "box", "x" * 2000, ("a",))
        self.check(deeper(A, ["not"] * 6), message, True)
        self.check(("all", (A,) * 12), message, True)
        self.check(("contains", "x" * 20), message, True)

    def test_by_name(self):
        self.assertIs(holds(condition=ALWAYS, message=("ann", "box", "", ())), True)


class PartsTest(unittest.TestCase):
    MIXED = ("any", (
        ("contains", "b"), ("is", ""), ("marked", "zed"), ("from", ("bob", "zed")),
        ("not", ("all", (("ends", "b"), ("marked", "ann"), ("begins", "b"), ("from", ("ann", "bob"))))),
        ("all", (("contains", "a"), ("contains", "b"), ("contains", "B"), ("marked", "zed"), ("is", "x"))),
    ))

    def test_mixed(self):
        self.assertEqual(tests_of(self.MIXED), [
            ("begins", "b"), ("contains", "B"), ("contains", "a"), ("contains", "b"), ("ends", "b"), ("is", ""),
            ("is", "x")])
        self.assertEqual(marks_of(self.MIXED), ["ann", "zed"])
        self.assertEqual(names_of(self.MIXED), ["ann", "bob", "zed"])

    def test_singles(self):
        for condition in SINGLES:
            word, part = condition
            with self.subTest(condition):
                self.assertEqual(tests_of(condition), [condition] if word in ("contains", "begins", "ends", "is") else [])
                self.assertEqual(marks_of(condition), [part] if word == "marked" else [])
                self.assertEqual(names_of(condition), list(part) if word == "from" else [])

    def test_within_others(self):
        for words in (["not"], ["all"], ["any"], ["not", "any", "all"]):
            with self.subTest(words):
                self.assertEqual(tests_of(deeper(("is", "x"), words)), [("is", "x")])
                self.assertEqual(marks_of(deeper(("marked", "b"), words)), ["a", "b"] if words != ["not"] else ["b"])
                self.assertEqual(names_of(deeper(("from", ("a", "b")), words)), ["a", "b"])

    def test_the_ascending_order_is_that_of_strings(self):
        condition = ("all", (("is", "b"), ("is", "aa"), ("is", "~"), ("is", " "), ("is", "B"), ("is", "a")))
        self.assertEqual([text for word, text in tests_of(condition)], [" ", "B", "a", "aa", "b", "~"])

    def test_new_lists(self):
        for function in (tests_of, marks_of, names_of):
            for condition in (self.MIXED, ALWAYS):
                with self.subTest(function):
                    first = function(condition=condition)
                    first.append("more")
                    second = function(condition)
                    self.assertIsInstance(second, list)
                    self.assertEqual(second, first[:-1])
                    self.assertIsNot(second, first)
        for test in tests_of(self.MIXED):
            self.assertIsInstance(test, tuple)


if __name__ == "__main__":
    unittest.main()
