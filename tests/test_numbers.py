"""Points [10], [12] and the measures of [15]: numbers.py."""

import unittest

from mailrings.errors import BadWish
from mailrings.houses import House
from mailrings.kinds import Kinds
from mailrings.numbers import arrivals, filings, leavings, measure
from tests.samples import ALWAYS, Course, cases, draw_message
from tests.values import OTHER_STRINGS, OTHER_VALUES

ALL = ("all",)


def total(numbers):
    """Return the sum of numbers, None if one is endless."""
    return None if None in numbers else sum(numbers)


def counting(boxes):
    """Return a house of mailboxes, in each of which 63 hops go by, four copies each time.

    The signs in front of a subject follow each other so that six of them in a sequence never come twice.
    """
    signs = "aaaaaa"
    while True:
        fitting = [sign for sign in "ba" if signs[-5:] + sign not in [signs[at:at + 6] for at in range(len(signs) - 5)]]
        if not fitting:
            break
        signs += fitting[0]
    windows = [signs[at:at + 6][::-1] for at in range(len(signs) - 5)]
    following = {window: [front for front, sign in zip(windows, signs[6:]) if sign == window] for window in "ab"}
    house = House()
    names = [letter * 2 for letter in "abcdefghijklmnopqrst"[:boxes]]
    for name, target in zip(names, [*names[1:], "out"]):
        rules = []
        for sign, fronts in following.items():
            groups = [fronts[at:at + 8] for at in range(0, len(fronts), 8)]
            condition = ("any", tuple(("any", tuple(("begins", front) for front in group)) for group in groups))
            rules.append((condition, (("tag", sign), *[("forward", name)] * 4, ("drop",))))
        rules.append((("begins", windows[-1]), (("tag", "aaaaaa"), *[("forward", target)] * 4, ("drop",))))
        house.add_mailbox(name, rules)
    return house


class ExamplesTest(unittest.TestCase):
    def test_the_example(self):
        house = House()
        house.add_list("l", ("m", "n"))
        house.add_list("m", ("n", "zed"))
        house.add_mailbox("n")
        message = ("ann", "l", "", ())
        self.assertEqual(
            [arrivals(house, message), filings(house, message), leavings(house, message)],
            [4, {("n", "inbox"): 2}, {"zed": 1}])
        self.assertEqual(arrivals(house=house, message=message), 4)
        self.assertEqual(filings(house=house, message=message), {("n", "inbox"): 2})
        self.assertEqual(leavings(house=house, message=message), {"zed": 1})
        self.assertEqual(measure(house=house, message=message, what=ALL), 3)

    def test_outside(self):
        other = House()
        other.add_mailbox("box", [(ALWAYS, (("forward", "zed"),))])
        for message in (("ann", "zed", "", ()), ("a", "a", "x" * 1000, tuple("abcdefgh")), ["ann", "zed", "", []]):
            for house in (House(), other):
                address = message[1]
                self.assertEqual(arrivals(house, message), 0)
                self.assertEqual(filings(house, message), {})
                self.assertEqual(leavings(house, message), {address: 1})
                measures = (ALL, ("left",), ("left", address), ("left", "b"), ("filed", address))
                self.assertEqual([measure(house, message, what) for what in measures], [1, 1, 1, 0, 0])

    def test_one_mailbox(self):
        house = House()
        house.add_mailbox("box", [(("begins", "a"), (("file", "old"), ("file", "old"), ("file", "new"))), (("is", "b"), (("drop",),))])
        for subject, filed in (("", {"inbox": 1}), ("abc", {"old": 2, "new": 1}), ("b", {})):
            message = ("ann", "box", subject, ())
            self.assertEqual(arrivals(house, message), 1)
            self.assertEqual(filings(house, message), {("box", folder): many for folder, many in filed.items()})
            self.assertEqual(leavings(house, message), {})

    def test_an_arrival_without_filings(self):
        house = House()
        house.add_list("none", ())
        house.add_list("closed", ("ann", "none", "zed"), closed=True)
        self.assertEqual(arrivals(house, ("ann", "closed", "", ())), 2)
        self.assertEqual(leavings(house, ("ann", "closed", "", ())), {"ann": 1, "zed": 1})
        self.assertEqual(arrivals(house, ("bob", "closed", "", ())), 1)
        self.assertEqual(leavings(house, ("bob", "closed", "", ())), {})
        self.assertEqual(filings(house, ("ann", "closed", "", ())), {})

    def test_strange_senders(self):
        house = House()
        house.add_list("list", ("box", "out", "a"))
        house.add_mailbox("box", [(("not", ("marked", "auto")), (("reply", "re"), ("reply", "aw"), ("forward", "out")))])
        for sender in ("b", "bob", "aa", "zzzzzzzzzzzz"):
            self.assertEqual(leavings(house, (sender, "list", "", ())), {"out": 2, "a": 1, sender: 2})
            self.assertEqual(measure(house, (sender, "list", "", ()), ("left", sender)), 2)
            self.assertEqual(measure(house, (sender, "list", "", ()), ("left", "aaa")), 0)
        self.assertEqual(leavings(house, ("a", "list", "", ())), {"out": 2, "a": 3})
        self.assertEqual(leavings(house, ("out", "list", "", ())), {"out": 4, "a": 1})
        self.assertEqual(leavings(house, ("box", "list", "", ())), {"out": 2, "a": 1})
        self.assertEqual(filings(house, ("box", "list", "", ())), {("box", "inbox"): 3})
        self.assertEqual(arrivals(house, ("box", "list", "", ())), 4)

    def test_marks_that_nobody_asks(self):
        house = House()
        house.add_mailbox("box", [(("marked", "m"), (("forward", "zed"),))])
        for marks, left in (((), {}), (("a", "b"), {}), (("a", "m", "z"), {"zed": 1})):
            self.assertEqual(leavings(house, ("ann", "box", "", marks)), left)

    def test_two_copies_to_the_same_place(self):
        house = House()
        house.add_mailbox("box", [(ALWAYS, (("forward", "post"), ("forward", "out"), ("forward", "post")))] * 2)
        house.add_alias("post", "end")
        house.add_mailbox("end", [(ALWAYS, (("file", "x"), ("file", "y"), ("file", "x")))])
        message = ("ann", "box", "", ())
        self.assertEqual(arrivals(house, message), 9)
        self.assertEqual(filings(house, message), {("box", "inbox"): 1, ("end", "x"): 8, ("end", "y"): 4})
        self.assertEqual(leavings(house, message), {"out": 2})


class BigNumbersTest(unittest.TestCase):
    def test_lists_of_eight(self):
        house = House()
        names = [letter * 2 for letter in "abcdefghijklmnopqrst"]
        for name, target in zip(names, names[1:]):
            house.add_mailbox(name, [(ALWAYS, (("forward", target),) * 6)] * 10)
        house.add_list(names[-1], tuple("abcdefgh"))
        message = ("ann", "aa", "", ())
        self.assertEqual(arrivals(house, message), sum(60 ** power for power in range(20)))
        self.assertEqual(leavings(house, message), {name: 60 ** 19 for name in "abcdefgh"})
        self.assertEqual(filings(house, message), {(name, "inbox"): 60 ** at for at, name in enumerate(names[:-1])})
        self.assertEqual(measure(house, message, ("left",)), 8 * 60 ** 19)

    def test_hundreds_of_figures(self):
        house = counting(8)
        message = ("ann", "aa", "aaaaaa", ())
        number = leavings(house, message)["out"]
        hops = 8 * 64
        self.assertEqual(leavings(house, message), {"out": 4 ** hops})
        self.assertEqual(arrivals(house, message), (4 ** hops - 1) // 3)
        self.assertEqual(filings(house, message), {})
        self.assertEqual(measure(house, message, ALL), number)
        self.assertGreater(len(str(number)), 300)


class EndlessTest(unittest.TestCase):
    def test_endless_numbers_beside_exact_ones(self):
        house = House()
        house.add_list("all", ("box", "ring", "out"))
        house.add_mailbox("box", [(ALWAYS, (("file", "a"), ("forward", "far"), ("forward", "all")))])
        house.add_mailbox("ring", [(ALWAYS, (("file", "b"), ("forward", "round"), ("reply", "re")))])
        house.add_mailbox("round", [(("ends", "x"), (("forward", "ring"), ("drop",))), (ALWAYS, (("forward", "last"),))])
        house.add_alias("last", "end")
        house.set_rules("box", [(ALWAYS, (("file", "a"), ("forward", "far")))])
        message = ("ann", "all", "x", ())
        self.assertIsNone(arrivals(house, message))
        self.assertEqual(filings(house, message), {("box", "a"): 1, ("ring", "b"): None})
        self.assertEqual(leavings(house, message), {"out": 1, "far": 1, "ann": None})
        for what, number in (
            (ALL, None), (("filed", "box"), 1), (("filed", "box", "a"), 1), (("filed", "ring"), None),
            (("filed", "ring", "b"), None), (("filed", "ring", "inbox"), 0), (("filed", "round"), 0), (("left",), None),
            (("left", "ann"), None), (("left", "out"), 1), (("left", "end"), 0),
        ):
            with self.subTest(what):
                self.assertEqual(measure(house, message, what), number)
        message = ("ann", "all", "y", ())
        self.assertEqual(arrivals(house, message), 5)
        self.assertEqual(filings(house, message), {("box", "a"): 1, ("ring", "b"): 1, ("round", "inbox"): 1})
        self.assertEqual(leavings(house, message), {"out": 1, "far": 1, "ann": 1, "end": 1})

    def test_behind_a_ring(self):
        house = House()
        house.add_list("ring", ("ring", "post"))
        house.add_alias("post", "box")
        house.add_mailbox("box", [(ALWAYS, (("forward", "out"),))])
        house.add_list("top", ("box", "ring", "far"))
        message = ("ann", "top", "", ())
        self.assertEqual(filings(house, message), {("box", "inbox"): None})
        self.assertEqual(leavings(house, message), {"out": None, "far": 1})
        self.assertEqual(arrivals(house, ("ann", "post", "", ())), 2)

    def test_endless_arrivals_with_finite_numbers(self):
        house = House()
        house.add_mailbox("box", [(("begins", "x"), (("forward", "box"), ("drop",))), (ALWAYS, (("tag", "x"), ("forward", "box")))])
        message = ("ann", "box", "", ())
        self.assertIsNone(arrivals(house, message))
        self.assertEqual(filings(house, message), {("box", "inbox"): 1})
        self.assertEqual(leavings(house, message), {})
        self.assertEqual([measure(house, message, what) for what in (ALL, ("left",), ("filed", "box"))], [1, 0, 1])

    def test_a_ring_of_messages_that_grow(self):
        house = House()
        house.add_mailbox("box", [(ALWAYS, (("tag", "ab"), ("file", "f"), ("forward", "box"), ("reply", "r")))])
        self.assertIsNone(arrivals(house, ("ann", "box", "", ())))
        self.assertEqual(filings(house, ("ann", "box", "", ())), {("box", "f"): None})
        self.assertEqual(leavings(house, ("ann", "box", "", ())), {"ann": None})


class MeasureTest(unittest.TestCase):
    def house(self):
        house = House()
        house.add_list("list", ("box", "out", "far"))
        house.add_mailbox("box", [(ALWAYS, (("file", "a"), ("file", "b"), ("file", "a"), ("forward", "out")))])
        return house

    def test_measures(self):
        for what, number in (
            (ALL, 6), (("left",), 3), (("left", "out"), 2), (("left", "far"), 1), (("left", "box"), 0), (("left", "zed"), 0),
            (("filed", "box"), 3), (("filed", "box", "a"), 2), (("filed", "box", "b"), 1), (("filed", "box", "inbox"), 0),
            (("filed", "list"), 0), (("filed", "list", "a"), 0), (("filed", "zed"), 0), (("filed", "out", "a"), 0),
            (("filed", "a"), 0), (("filed", "a", "box"), 0),
        ):
            with self.subTest(what):
                self.assertEqual(measure(self.house(), ("ann", "list", "", ()), what), number)

    def test_no_measures(self):
        house = self.house()
        for message in (("ann", "list", "", ()), ("ann", "out", "", ())):
            for value in (
                *OTHER_VALUES, *OTHER_STRINGS, "all", "left", ("filed",), ("filed", "box", "a", "b"), ("left", "a", "b"),
                ("all", "box"), ("all", ()), ["all"], ["filed", "box"], ("filed", ["box"]), ("filed", "box", ["a"]),
                ("filed", "Box"), ("filed", ""), ("filed", "box", ""), ("filed", "box", "A"), ("filed", "box", None),
                ("left", ""), ("left", None), ("left", "out far"), ("left", ("out",)), ("left", "abcdefghijklm"), ("All",),
                ("files", "box"), ("sent",), ("",), (None,), (("all",),), (["all"],), ("filed", True), ("left", 0), ({},),
                {"all": 1}, {}, ("filed", {}, "a"), ("arrivals",),
            ):
                with self.subTest(value):
                    with self.assertRaises(BadWish) as caught:
                        measure(house, message, value)
                    self.assertIs(caught.exception.value, value)
        self.assertEqual(house, self.house())


class DrawnTest(unittest.TestCase):
    def test_finite_ones(self):
        finite = 0
        for draw, house in cases(21, 500):
            for _ in range(3):
                message = draw_message(draw, house)
                course = Course(house, message, 60, 2000)
                if course.is_over:
                    finite += 1
                    with self.subTest(message):
                        self.assertEqual(arrivals(house, message), course.arrivals)
                        self.assertEqual(filings(house, message), course.filings)
                        self.assertEqual(leavings(house, message), course.leavings)
                        self.check_measures(house, message)
        self.assertGreater(finite, 800)

    def test_endless_ones(self):
        endless = exact = 0
        for draw, house in cases(22, 500):
            # Below such a list there is often more than what comes round.
            house.add_list("top", tuple(draw.sample([*house.addresses, "far", "out"], 3)))
            message = ("ann", "top", *draw_message(draw, house)[2:])
            if arrivals(house, message) is None:
                endless += 1
                short, long = Course(house, message, 25, 600), Course(house, message, 60, 6000)
                self.assertFalse(long.is_over)
                for numbers, told in ((filings(house, message), "filings"), (leavings(house, message), "leavings")):
                    early, late = getattr(short, told), getattr(long, told)
                    self.assertLessEqual(set(late), set(numbers))
                    for key, number in numbers.items():
                        if number is None:
                            self.assertGreater(late.get(key, 0), 0)
                        else:
                            exact += 1
                            self.assertEqual(late.get(key, 0), number)
                            self.assertLessEqual(early.get(key, 0), number)
                self.check_measures(house, message)
        self.assertGreater(endless, 100)
        self.assertGreater(exact, 20)

    def check_measures(self, house, message):
        filed, left = filings(house, message), leavings(house, message)
        self.assertEqual(measure(house, message, ALL), total([*filed.values(), *left.values()]))
        self.assertEqual(measure(house, message, ("left",)), total(list(left.values())))
        for name in [*house.addresses, "ann", "out"]:
            self.assertEqual(measure(house, message, ("left", name)), left.get(name, 0))
            self.assertEqual(
                measure(house, message, ("filed", name)), total([number for key, number in filed.items() if key[0] == name]))
            for folder in ("inbox", "old"):
                self.assertEqual(measure(house, message, ("filed", name, folder)), filed.get((name, folder), 0))

    def test_messages_of_a_kind_have_the_same_numbers(self):
        for draw, house in cases(23, 200):
            message = draw_message(draw, house)
            if message[1] in house.addresses:
                kind = Kinds(house).kind(message)
                self.assertEqual(arrivals(house, message), arrivals(house, kind))
                self.assertEqual(filings(house, message), filings(house, kind))
                told = {message[0] if name == kind[0] else name: many for name, many in leavings(house, kind).items()}
                self.assertEqual(leavings(house, message), told)


class NewThingsTest(unittest.TestCase):
    def test_a_changed_house_is_asked_anew(self):
        house = House()
        message = ("ann", "box", "", ())
        self.assertEqual(leavings(house, message), {"box": 1})
        house.add_mailbox("box", [(ALWAYS, (("forward", "post"),))])
        self.assertEqual((arrivals(house, message), leavings(house, message)), (1, {"post": 1}))
        house.add_alias("post", "out")
        self.assertEqual((arrivals(house, message), leavings(house, message)), (2, {"out": 1}))
        house.remove("post")
        house.add_list("post", ("out", "far"))
        self.assertEqual((arrivals(house, message), leavings(house, message)), (2, {"out": 1, "far": 1}))
        house.set_list("post", ("box",))
        self.assertEqual((arrivals(house, message), leavings(house, message)), (None, {}))
        house.set_rules("box", [])
        self.assertEqual((arrivals(house, message), leavings(house, message)), (1, {}))
        house.remove("box")
        self.assertEqual((arrivals(house, message), leavings(house, message)), (0, {"box": 1}))

    def test_a_copy_goes_its_own_way(self):
        house = House()
        house.add_mailbox("box")
        message = ("ann", "box", "", ())
        self.assertEqual(arrivals(house, message), 1)
        copy = house.copied()
        copy.set_rules("box", [(ALWAYS, (("forward", "box"),))])
        self.assertEqual((arrivals(house, message), arrivals(copy, message)), (1, None))
        self.assertEqual(arrivals(copy.without_rule("box", 0), message), 1)
        self.assertEqual(arrivals(copy.with_cuts([("sent", "box", 0, 0)]), message), 1)

    def test_dicts_are_new(self):
        for _, house in cases(24, 5):
            for address in house.addresses:
                message = ("ann", address, "ab", ())
                for function in (filings, leavings):
                    found = function(house, message)
                    before = dict(found)
                    found.clear()
                    self.assertEqual(function(house, message), before)


if __name__ == "__main__":
    unittest.main()
