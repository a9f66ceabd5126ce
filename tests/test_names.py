"""Points [2], [3], [4] and the strange name of [11]: names.py."""

import unittest

from mailrings.names import is_message, is_name, is_subject, is_text, message_key, strange_name, with_mark
from tests.values import OTHER_STRINGS, OTHER_VALUES

LETTERS = "abcdefghijklmnopqrstuvwxyz"
SIGNS = [chr(code) for code in range(32, 127) if code != 37]


class IsNameTest(unittest.TestCase):
    def test_names(self):
        for value in (*LETTERS, "ann", "abcdefghijkl", "zzzzzzzzzzzz", "aa", "nopqrstuvwxy"):
            with self.subTest(value):
                self.assertIs(is_name(value), True)

    def test_other_strings(self):
        for value in OTHER_STRINGS:
            with self.subTest(value):
                self.assertIs(is_name(value), False)

    def test_each_other_sign(self):
        for code in range(0, 600):
            if chr(code) not in LETTERS:
                with self.subTest(code):
                    self.assertIs(is_name(chr(code)), False)
                    self.assertIs(is_name("a" + chr(code) + "a"), False)

    def test_other_values(self):
        for value in OTHER_VALUES:
            with self.subTest(value):
                self.assertIs(is_name(value), False)

    def test_by_name(self):
        self.assertIs(is_name(value="ann"), True)


class IsSubjectTest(unittest.TestCase):
    def test_each_sign(self):
        for code in [*range(0, 600), 0xd800, 0xff05, 0x10ffff]:
            with self.subTest(code):
                self.assertIs(is_subject(chr(code)), chr(code) in SIGNS)
                self.assertIs(is_subject("a" + chr(code) + "~"), chr(code) in SIGNS)

    def test_edges(self):
        self.assertIs(is_subject(" "), True)
        self.assertIs(is_subject("~"), True)
        self.assertIs(is_subject("%"), False)
        self.assertIs(is_subject("100% sure"), False)
        self.assertIs(is_subject("\x1f"), False)
        self.assertIs(is_subject("\x7f"), False)

    def test_any_number_of_characters(self):
        for many in (0, 1, 8, 9, 1000, 1001, 100000):
            with self.subTest(many):
                self.assertIs(is_subject("x" * many), True)
                self.assertIs(is_subject("x" * many + "\n"), False)
        self.assertIs(is_subject("".join(SIGNS)), True)

    def test_other_values(self):
        for value in OTHER_VALUES:
            with self.subTest(value):
                self.assertIs(is_subject(value), False)

    def test_by_name(self):
        self.assertIs(is_subject(value=""), True)


class IsTextTest(unittest.TestCase):
    def test_texts(self):
        for value in (*SIGNS, "ab", "12345678", "        ", "~~~~~~~~", 'a"b\\c'):
            with self.subTest(value):
                self.assertIs(is_text(value), True)

    def test_other_strings(self):
        for value in ("", "123456789", "x" * 1000, "%", "a%", "a\n", "1234567\t", "\u00e9"):
            with self.subTest(value):
                self.assertIs(is_text(value), False)

    def test_other_values(self):
        for value in OTHER_VALUES:
            with self.subTest(value):
                self.assertIs(is_text(value), False)

    def test_by_name(self):
        self.assertIs(is_text(value="a"), True)


class IsMessageTest(unittest.TestCase):
    def test_the_example(self):
        self.assertEqual(
            [is_message(("ann", "box", "hello", ())), strange_name(["a", "ann"])], [True, "aa"])

    def test_messages(self):
        many = tuple(sorted(one + other for one in LETTERS for other in LETTERS))
        for value in (
            ("a", "a", "", ()),
            ("abcdefghijkl", "abcdefghijkl", " ~", ("abcdefghijkl",)),
            ("ann", "box", "x" * 1001, ("a", "aa", "b")),
            ("ann", "box", "x" * 50000, many),
            ("ann", "box", "", many[:8]),
            ("ann", "box", "", many[:9]),
        ):
            with self.subTest(value[:2]):
                self.assertIs(is_message(value), True)

    def test_wrong_marks(self):
        for marks in (
            ("a", "a"), ("b", "a"), ("a", "b", "b"), ("a", "c", "b"), ("aa", "a"), ["a"], [], {}, {"a": 1}, None, "a",
            "", "ab", ("",), ("A",), (1,), (True,), (None,), (("a",),), (["a"],), ({},), ("a", 1), (1, "a"), (1, 2),
            ("a", None), ("abcdefghijklm",), True, 0,
        ):
            with self.subTest(marks):
                self.assertIs(is_message(("ann", "box", "hi", marks)), False)

    def test_wrong_parts(self):
        for part in (*OTHER_VALUES, *OTHER_STRINGS):
            with self.subTest(part):
                self.assertIs(is_message((part, "box", "hi", ())), False)
                self.assertIs(is_message(("ann", part, "hi", ())), False)
                self.assertIs(is_message(("ann", "box", part, ())), is_subject(part))

    def test_another_length(self):
        for value in (
            (), ("ann",), ("ann", "box"), ("ann", "box", "hi"), ("ann", "box", "hi", (), ()), ("ann", "box", ()),
            ("ann", "box", "hi", (), "a"), ("ann", "box", "hi", "a", ()),
        ):
            with self.subTest(value):
                self.assertIs(is_message(value), False)

    def test_other_values(self):
        for value in (*OTHER_VALUES, *OTHER_STRINGS, "four", ["ann", "box", "hi", []]):
            with self.subTest(value):
                self.assertIs(is_message(value), False)

    def test_by_name(self):
        self.assertIs(is_message(value=("ann", "box", "", ())), True)


class MessageKeyTest(unittest.TestCase):
    ASCENDING = [
        ("a", "a", "", ()),
        ("b", "a", "", ()),
        ("a", "aa", "", ()),
        ("zed", "aa", "", ()),
        ("a", "b", "", ()),
        ("z", "z", "", ()),
        ("b", "b", "", ("a",)),
        ("a", "c", "", ("a",)),
        ("a", "a", "", ("aa",)),
        ("a", "a", "", ("z",)),
        ("a", "a", "", ("a", "b")),
        ("a", "a", "", ("a", "c")),
        ("a", "a", "", ("b", "c")),
        ("a", "a", "", ("a", "b", "c")),
        ("a", "a", " ", ()),
        ("a", "a", "A", ("a", "b")),
        ("a", "a", "a", ()),
        ("a", "a", "~", ()),
        ("a", "a", "  ", ()),
        ("a", "a", "aa", ()),
        ("a", "a", "ab", ()),
        ("a", "a", "b ", ()),
        ("a", "a", "   ", ()),
        ("a", "a", " " * 1000, ()),
    ]

    def test_the_order(self):
        for at, one in enumerate(self.ASCENDING):
            for place, other in enumerate(self.ASCENDING):
                with self.subTest((one, other)):
                    self.assertIs(message_key(one) < message_key(other), at < place)
                    self.assertIs(message_key(one) == message_key(other), at == place)

    def test_sorting(self):
        mixed = self.ASCENDING[::-2] + self.ASCENDING[::2]
        mixed.sort(key=lambda message: (message[1], message[2]))
        self.assertEqual(sorted(mixed, key=message_key), sorted(mixed, key=lambda one: self.ASCENDING.index(one)))
        self.assertEqual(sorted(self.ASCENDING[::-1], key=message_key), self.ASCENDING)

    def test_a_tuple_is_returned(self):
        message = ("ann", "box", "hi", ("a", "b"))
        self.assertIsInstance(message_key(message), tuple)
        self.assertEqual(message_key(message=message), message_key(message))
        self.assertEqual(message, ("ann", "box", "hi", ("a", "b")))


def names_from(begin, most):
    """Return the names that begin so, as Python orders them, at least so many (where there are)."""
    found = [begin] if begin else []
    if len(begin) < 12:
        for letter in LETTERS:
            if len(found) >= most:
                break
            found.extend(names_from(begin + letter, most - len(found)))
    return found


class StrangeNameTest(unittest.TestCase):
    def test_few(self):
        for names, strange in (
            ([], "a"), (["b"], "a"), (["aa"], "a"), (["a"], "aa"), (["a", "a"], "aa"), (["ann", "a"], "aa"),
            (["aaa", "a"], "aa"), (["aa", "a", "aaa"], "aaaa"), (["a", "b", "c"], "aa"), (list(LETTERS), "aa"),
            (["z" * 12], "a"), (("a", "aa"), "aaa"), ((), "a"),
        ):
            with self.subTest(names):
                self.assertEqual(strange_name(names), strange)

    def test_all_that_are_less(self):
        least = names_from("", 900)
        self.assertEqual(least, sorted(least))
        for many in (11, 12, 13, 36, 37, 38, 39, 40, 62, 63, 64, 65, 100, 713, 714, 715, 899):
            with self.subTest(many):
                self.assertEqual(strange_name(least[:many]), least[many])
                self.assertEqual(strange_name(least[:many][::-1] + ["zed", "b"]), least[many])

    def test_twelve_letters(self):
        short = ["a" * many for many in range(1, 12)]
        self.assertEqual(strange_name(short), "a" * 12)
        self.assertEqual(strange_name(short + ["a" * 12]), "a" * 11 + "b")
        last = ["a" * 11 + letter for letter in LETTERS]
        self.assertEqual(strange_name(short + last[:-1]), "a" * 11 + "z")
        self.assertEqual(strange_name(short + last), "a" * 10 + "b")
        self.assertEqual(strange_name(short + last + ["a" * 10 + "b"]), "a" * 10 + "ba")

    def test_one_missing(self):
        least = names_from("", 300)
        for at in range(0, 300, 7):
            with self.subTest(at):
                self.assertEqual(strange_name(least[:at] + least[at + 1:]), least[at])

    def test_what_is_passed_in_stays(self):
        names = ["b", "a", "aa", "a"]
        self.assertEqual(strange_name(names=names), "aaa")
        self.assertEqual(names, ["b", "a", "aa", "a"])


class WithMarkTest(unittest.TestCase):
    def test_marks(self):
        for marks, mark, more in (
            ((), "a", ("a",)),
            (("a",), "a", ("a",)),
            (("a",), "b", ("a", "b")),
            (("b",), "a", ("a", "b")),
            (("a", "c"), "b", ("a", "b", "c")),
            (("a", "c"), "c", ("a", "c")),
            (("a", "b"), "aa", ("a", "aa", "b")),
            (["a", "c"], "b", ("a", "b", "c")),
            (tuple(LETTERS[1:]), "a", tuple(LETTERS)),
            (tuple(LETTERS), "auto", tuple(sorted([*LETTERS, "auto"]))),
        ):
            with self.subTest((marks, mark)):
                self.assertEqual(with_mark(marks, mark), more)
                self.assertIsInstance(with_mark(marks, mark), tuple)

    def test_what_is_passed_in_stays(self):
        marks = ["b", "d"]
        self.assertEqual(with_mark(marks=marks, mark="c"), ("b", "c", "d"))
        self.assertEqual(marks, ["b", "d"])


if __name__ == "__main__":
    unittest.main()
