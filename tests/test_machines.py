"""The tests and subjects of [11] and the order of [4]: machines.py."""

import itertools
import random
import unittest

from mailrings.conditions import subject_passes
from mailrings.houses import House
from mailrings.machines import Machine, apart, house_tests
from tests.samples import ALWAYS, cases, draw_tests

SIGNS = "".join(chr(code) for code in range(32, 127) if code != 37)


def texts(signs, most):
    """Return all strings of at most so many of the signs, shorter first, then as Python compares strings."""
    return ["".join(text) for many in range(most + 1) for text in itertools.product(sorted(signs), repeat=many)]


def all_results(tests, subject, fronts):
    """Return the results of the tests for a subject with each of the texts in front of it."""
    return tuple(subject_passes(word, text, front + subject) for front in fronts for word, text in tests)


class HouseTestsTest(unittest.TestCase):
    def test_none(self):
        house = House()
        self.assertEqual(house_tests(house), [])
        house.add_mailbox("box", [(ALWAYS, (("tag", "a"), ("reply", "b"))), (("from", ("a",)), ()), (("marked", "a"), ())])
        house.add_list("list", ("box",), mark="m", closed=True)
        house.add_alias("post", "box")
        self.assertEqual(house_tests(house), [])

    def test_rules_and_tags(self):
        house = House()
        house.add_mailbox("z", [(("any", (("not", ("is", "b")), ("ends", "b"), ("is", ""))), ()), (("begins", "b"), ())])
        house.add_list("l", (), tag="b")
        house.add_list("m", ("z",), tag="A")
        house.add_mailbox("a", [(("contains", "b"), ()), (("begins", "b"), ()), (("contains", "a"), ())])
        tests = [
            ("begins", "b"), ("contains", "A"), ("contains", "a"), ("contains", "b"), ("ends", "b"), ("is", ""), ("is", "b")]
        self.assertEqual(house_tests(house=house), tests)
        house_tests(house).clear()
        self.assertEqual(house_tests(house), tests)
        house.set_list("m", ("z",))
        house.remove("z")
        self.assertEqual(house_tests(house), [("begins", "b"), ("contains", "a"), ("contains", "b")])


class SubjectsTest(unittest.TestCase):
    def test_the_example(self):
        machine = Machine([("contains", "ab")])
        self.assertEqual(
            [machine.subjects, machine.least("xby"), machine.put("b", "a"), machine.results("xaby")],
            [["", "b", "ab"], "", "ab", [True]])

    def test_by_hand(self):
        for tests, subjects in (
            ([], [""]),
            ([("contains", "a")], ["", "a"]),
            ([("begins", "a")], ["", "a"]),
            ([("begins", "ab")], ["", "b", "ab"]),
            ([("ends", "a")], ["", " ", "a"]),
            ([("ends", " ")], ["", " ", "!"]),
            ([("ends", "ab")], ["", " ", "b", "ab"]),
            ([("is", "")], ["", " "]),
            ([("is", "a")], ["", " ", "a"]),
            ([("is", "ab")], ["", " ", "b", "ab"]),
            ([("is", "ab"), ("is", "b")], ["", " ", "b", "ab"]),
            ([("contains", "aa")], ["", "a", "aa"]),
            ([("contains", "a"), ("contains", "ab")], ["", "a", "b", "ab", "ba"]),
            ([("contains", "a"), ("begins", "a")], ["", "a", " a"]),
            ([("contains", "ab"), ("contains", "ab")], ["", "b", "ab"]),
            ([("contains", " ")], ["", " "]),
            ([("contains", "~"), ("ends", "~")], ["", " ", "~", "~ "]),
        ):
            with self.subTest(tests):
                self.assertEqual(Machine(tests).subjects, subjects)
                self.assertEqual(Machine(tests[::-1] + tests).subjects, subjects)
                self.assertEqual(Machine(tuple(tests)).subjects, subjects)

    def test_subjects_are_new(self):
        machine = Machine([("contains", "a")])
        machine.subjects.append("more")
        self.assertEqual(machine.subjects, ["", "a"])

    def test_what_is_passed_in_is_copied(self):
        tests = [("contains", "a")]
        machine = Machine(tests=tests)
        tests.append(("contains", "b"))
        tests[0] = ("is", "c")
        self.assertEqual(machine.subjects, ["", "a"])
        self.assertEqual(machine.results("ab"), [True])

    def test_all_signs(self):
        tests = [("is", sign) for sign in SIGNS]
        self.assertEqual(Machine(tests).subjects, ["", *SIGNS, "  "])
        for missing in (" ", "M", "~"):
            machine = Machine([("contains", sign) for sign in SIGNS if sign != missing][:6])
            self.assertEqual(len(machine.subjects), 64)
            self.assertEqual(machine.least(missing * 5), machine.least(missing))
        machine = Machine([("is", sign) for sign in SIGNS if sign != "M"])
        self.assertEqual(machine.least("M"), "M")
        self.assertEqual(machine.least("MM"), "M")

    def test_subjects_are_the_least_and_all(self):
        for seed in range(120):
            draw = random.Random(seed)
            tests = draw_tests(draw)
            fronts = texts("ab ", max([len(text) for _, text in tests], default=0))
            least = {}
            for subject in texts("ab ", 5):
                least.setdefault(all_results(tests, subject, fronts), subject)
            machine = Machine(tests)
            with self.subTest(tests):
                self.assertEqual([subject for subject in machine.subjects if len(subject) <= 5], list(least.values()))
                self.assertEqual(machine.subjects, sorted(machine.subjects, key=lambda one: (len(one), one)))
                for subject in draw.sample(texts("ab ", 5), 30):
                    self.assertEqual(machine.least(subject), least[all_results(tests, subject, fronts)])

    def test_many_subjects(self):
        machine = Machine([("contains", letter * 2) for letter in "abcdefghij"])
        self.assertEqual(len(machine.subjects), 1024 * 6)
        self.assertEqual(machine.subjects[-1], "aabbccddeeffgghhiijj")
        self.assertEqual(machine.least("xjjxiixj"), "iijj")
        self.assertEqual(machine.least("axjjxiixj"), "aiijj")


class MethodsTest(unittest.TestCase):
    TESTS = [("contains", "ab"), ("begins", "ba"), ("ends", "ab"), ("is", "bab"), ("contains", "ab")]

    def test_results_in_sequence(self):
        machine = Machine(self.TESTS)
        for subject, results in (
            ("", [False] * 5), ("ab", [True, False, True, False, True]), ("bab", [True, True, True, True, True]),
            ("baba", [True, True, False, False, True]), ("ba", [False, True, False, False, False]),
        ):
            with self.subTest(subject):
                self.assertEqual(machine.results(subject=subject), results)
        self.assertEqual(Machine([]).results("x"), [])

    def test_least_and_put(self):
        machine = Machine(self.TESTS)
        for subject in texts("ab ", 4):
            self.assertTrue(machine.are_alike(subject, machine.least(subject=subject)))
            self.assertIn(machine.least(subject), machine.subjects)
            for text in ("", "a", "ba", "x" * 30, "ab" * 20, "b" * 1000):
                self.assertEqual(machine.put(subject=subject, text=text), machine.least(text + subject))
        for subject in machine.subjects:
            self.assertEqual(machine.least(subject), subject)
            self.assertEqual(machine.put(subject, ""), subject)

    def test_long_subjects(self):
        machine = Machine([("contains", "12345678"), ("ends", "xy")])
        self.assertEqual(machine.least("z" * 1000), " ")
        self.assertEqual(machine.least("z" * 500 + "12345678" + "z" * 492), "12345678")
        self.assertEqual(machine.least("z" * 990 + "2345678 xy"), "xy")
        self.assertEqual(machine.least("2345678" + "z" * 991 + "xy"), "2345678xy")
        self.assertTrue(machine.are_alike("a" * 1000, "b" * 1000))
        self.assertFalse(machine.are_alike("a" * 1000, "a" * 998 + "xy"))
        self.assertEqual(machine.put("z" * 1000, "12345678" + "q" * 992), "12345678")
        self.assertEqual(machine.least("z" * 100000 + "xy"), "xy")

    def test_alike(self):
        for seed in range(60):
            draw = random.Random(seed)
            tests = draw_tests(draw)
            fronts = texts("ab ", max([len(text) for _, text in tests], default=0))
            machine = Machine(tests)
            for _ in range(20):
                one, other = draw.choice(texts("ab ", 5)), draw.choice(texts("ab ", 3))
                alike = all_results(tests, one, fronts) == all_results(tests, other, fronts)
                with self.subTest((tests, one, other)):
                    self.assertIs(machine.are_alike(first=one, second=other), alike)
                    self.assertEqual(machine.least(one) == machine.least(other), alike)


class ApartTest(unittest.TestCase):
    def test_by_hand(self):
        for tests, first, second, text in (
            ([], "a", "b", None),
            ([("contains", "ab")], "", "", None),
            ([("contains", "ab")], "x", "y", None),
            ([("contains", "ab")], "b", "a", "a"),
            ([("contains", "ab")], "ab", "", ""),
            ([("contains", "ab")], "bab", "xab", None),
            ([("begins", "abc")], "c", "x", "ab"),
            ([("begins", "abc")], "abc", "abd", ""),
            ([("ends", "abc")], "", "x", "abc"),
            ([("ends", "abc")], "c", "bc", "a"),
            ([("ends", "abc")], "xbc", "bc", "a"),
            ([("ends", "aab")], "b", "ab", "a"),
            ([("is", "abc")], "", "c", "ab"),
            ([("is", "")], "", "x", ""),
            ([("is", "")], "y", "x", None),
            ([("contains", "za"), ("contains", "ya")], "a", "b", "y"),
            ([("contains", "zza"), ("contains", "yb")], "a", "b", "y"),
            ([("contains", "zzza"), ("contains", "aab")], "a", "b", "aa"),
            ([("contains", "12345678"), ("contains", "12345678")], "8" + "x" * 999, "x" * 1000, "1234567"),
        ):
            with self.subTest((tests, first, second)):
                self.assertEqual(apart(tests, first, second), text)
                self.assertEqual(apart(tests=tests[::-1], first=second, second=first), text)

    def test_the_least_of_the_shortest(self):
        for seed in range(150):
            draw = random.Random(seed)
            tests = draw_tests(draw)
            fronts = texts("ab ", max([len(text) for _, text in tests], default=0))
            for _ in range(10):
                one, other = draw.choice(texts("ab ", 5)), draw.choice(texts("ab ", 3))
                found = [
                    front for front in fronts
                    if all_results(tests, one, [front]) != all_results(tests, other, [front])]
                with self.subTest((tests, one, other)):
                    self.assertEqual(apart(tests, one, other), found[0] if found else None)

    def test_with_a_machine(self):
        for draw, house in cases(3, 60):
            tests = house_tests(house)
            machine = Machine(tests)
            for one in machine.subjects[:8]:
                for other in machine.subjects[:8]:
                    text = apart(tests, one, other)
                    self.assertEqual(text is None, one == other)
                    if text is not None:
                        self.assertNotEqual(machine.results(text + one), machine.results(text + other))


if __name__ == "__main__":
    unittest.main()
