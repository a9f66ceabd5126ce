"""Points [14] and [19]: storms.py."""

import itertools
import unittest

from mailrings.arrivals import after_hops, arrive
from mailrings.houses import House
from mailrings.kinds import Kinds
from mailrings.numbers import arrivals
from mailrings.rings import first_endless
from mailrings.storms import are_storm_rings, count_after, fewest_cuts, growth, storm_rings, walked
from tests.samples import ALWAYS, Course, all_cuts, cases, draw_busy_house, draw_message
from tests.values import OTHER_STRINGS, OTHER_VALUES


def fibonacci():
    """Return the house of the document's example."""
    house = House()
    house.add_list("l", ("l", "m"))
    house.add_alias("m", "l")
    return house


def lists(**members):
    """Return a house of lists with members, told as letters."""
    house = House()
    for name, letters in members.items():
        house.add_list(name, tuple(letters))
    return house


class GrowthTest(unittest.TestCase):
    def test_the_examples(self):
        house = House()
        house.add_list("l", ("m", "n"))
        house.add_list("m", ("n", "zed"))
        house.add_mailbox("n")
        self.assertIsNone(growth(house, ("ann", "l", "", ())))
        message = ("ann", "l", "", ())
        house = fibonacci()
        self.assertEqual(
            [growth(house, message), count_after(house, message, 10), len(fewest_cuts(house))], ["storm", 144, 2])
        self.assertEqual(growth(house=house, message=message), "storm")

    def test_outside(self):
        for house in (House(), fibonacci()):
            self.assertIsNone(growth(house, ("ann", "out", "", ())))

    def test_powers(self):
        for members, power in (
            ({"a": "b", "b": "z"}, None),
            ({"a": "a"}, 0),
            ({"a": "b", "b": "a"}, 0),
            ({"a": "bz", "b": "az"}, 0),
            ({"a": "bc", "b": "b", "c": "c"}, 0),
            ({"a": "ab", "b": "b"}, 1),
            ({"a": "bc", "b": "b", "c": "cb"}, 1),
            ({"a": "ab", "b": "c", "c": "bd", "d": "d"}, 2),
            ({"a": "ab", "b": "c", "c": "d", "d": "de", "e": "fz", "f": "e"}, 2),
            ({"a": "ab", "b": "bc", "c": "cd", "d": "de", "e": "ez"}, 4),
            ({"a": "abc", "b": "bd", "c": "cd", "d": "d"}, 2),
            ({"a": "abd", "b": "bd", "d": "z"}, 1),
            ({"a": "ab", "b": "ba"}, "storm"),
            ({"a": "bc", "b": "a", "c": "a"}, "storm"),
            ({"a": "b", "b": "c", "c": "ab"}, "storm"),
            ({"a": "ab", "b": "c", "c": "cd", "d": "de", "e": "ed"}, "storm"),
            ({"a": "ab", "b": "bc", "c": "dz", "d": "c", "e": "ea"}, 2),
        ):
            with self.subTest(members):
                self.assertEqual(growth(lists(**members), ("x", "a", "", ())), power)
        self.assertEqual(growth(lists(a="ab", b="bc", c="cz", e="ef", f="fe"), ("x", "c", "", ())), 0)
        self.assertIs(type(growth(lists(a="a"), ("x", "a", "", ()))), int)

    def test_two_copies_to_the_same_place(self):
        house = House()
        house.add_mailbox("box", [(ALWAYS, (("forward", "post"), ("forward", "post")))])
        house.add_alias("post", "box")
        message = ("ann", "box", "", ())
        self.assertEqual(growth(house, message), "storm")
        self.assertEqual([count_after(house, message, hops) for hops in (0, 1, 2, 3, 4, 2000)], [1, 2, 2, 4, 4, 2 ** 1000])
        house.set_rules("box", [(ALWAYS, (("forward", "post"), ("forward", "out")))])
        self.assertEqual(growth(house, message), 0)

    def test_two_copies_of_different_subjects_and_one_kind(self):
        house = House()
        house.add_mailbox("box", [(ALWAYS, (("forward", "box"), ("tag", "x"), ("mark", "m"), ("forward", "box")))])
        self.assertEqual(growth(house, ("ann", "box", "", ())), "storm")

    def test_two_copies_of_two_kinds(self):
        house = House()
        house.add_mailbox("box", [(ALWAYS, (("forward", "box"), ("mark", "m"), ("forward", "box")))])
        house.add_mailbox("other", [(("marked", "m"), (("file", "x"),))])
        self.assertEqual(growth(house, ("ann", "box", "", ("m",))), "storm")
        self.assertEqual(growth(house, ("ann", "box", "", ())), "storm")
        house.set_rules("box", [
            (("marked", "m"), (("forward", "box"), ("stop",))), (ALWAYS, (("forward", "box"), ("mark", "m"), ("forward", "box")))])
        self.assertEqual(growth(house, ("ann", "box", "", ("m",))), 0)
        self.assertEqual(growth(house, ("ann", "box", "", ())), 1)
        self.assertEqual([count_after(house, ("ann", "box", "", ()), hops) for hops in (0, 1, 7, 2000)], [1, 2, 8, 2001])

    def test_drawn(self):
        found = {}
        for draw, house in [*cases(31, 300), *cases(31, 500, draw_busy_house)]:
            message = draw_message(draw, house)
            grown = growth(house, message)
            self.assertEqual(grown is None, arrivals(house, message) is not None)
            found[grown] = found.get(grown, 0) + 1
            if grown is None:
                self.assertEqual(count_after(house, message, 2000), 0)
            elif grown == "storm":
                few = sum(count_after(house, message, hops) for hops in range(200, 220))
                many = sum(count_after(house, message, hops) for hops in range(400, 420))
                self.assertGreater(many, few * 2)
            else:
                few = sum(count_after(house, message, hops) for hops in range(500, 530))
                many = sum(count_after(house, message, hops) for hops in range(1000, 1030))
                self.assertTrue(2 ** grown * few * 0.8 < many < 2 ** grown * few * 1.2)
        for grown in (None, 0, 1, "storm"):
            self.assertGreater(found.get(grown, 0), 5, found)


class WalkedTest(unittest.TestCase):
    def house(self):
        house = House()
        house.add_list("l", ("out", "box", "l"), tag="t")
        house.add_mailbox("box", [(ALWAYS, (("forward", "far"), ("tag", "x"), ("forward", "l"), ("reply", "r")))])
        return house

    def test_walks(self):
        first = ("box", "l", "", ("m",))
        second = ("box", "box", "t", ("m",))
        third = ("box", "l", "xt", ("m",))
        reply = ("box", "box", "rxt", ("auto", "m"))
        for places, walk in (
            ([], [first]), ([1], [first, second]), ([1, 1], [first, second, third]), ((1, 2), [first, second, reply]),
            ([2, 2], [first, ("box", "l", "t", ("m",)), ("box", "l", "t", ("m",))]), ([0], None), ([1, 0], None),
            ([3], None), ([1, 3], None), ([-1], None), ([1, -1], None), ([-2], None), ([10 ** 59], None), ([1, 1, 0], None),
            ([0, 0], None), ([1, 1, 1, 9, 1], None),
        ):
            with self.subTest(places):
                self.assertEqual(walked(self.house(), first, places), walk)

    def test_a_reply_that_leaves(self):
        self.assertIsNone(walked(self.house(), ("ann", "box", "", ()), [2]))

    def test_outside(self):
        message = ("ann", "out", "", ())
        self.assertEqual(walked(self.house(), message, []), [message])
        self.assertIsNone(walked(self.house(), message, [0]))
        self.assertEqual(walked(House(), message, []), [message])

    def test_by_name_and_new(self):
        message, places = ("box", "l", "", ()), [2, 2]
        walk = walked(house=self.house(), message=message, places=places)
        walk.clear()
        self.assertEqual(len(walked(self.house(), message, places)), 3)
        self.assertEqual(places, [2, 2])

    def test_long_subjects(self):
        house = House()
        house.add_mailbox("box", [(ALWAYS, (("tag", "12345678"), ("forward", "box")))])
        walk = walked(house, ("ann", "box", "x" * 1000, ()), [0] * 500)
        self.assertEqual(walk[-1], ("ann", "box", "12345678" * 500 + "x" * 1000, ()))


class StormRingsTest(unittest.TestCase):
    def check(self, house, message):
        value = storm_rings(house, message)
        self.assertIs(are_storm_rings(house, message, value), True)
        self.assertIsInstance(value, tuple)
        way, first, second = value
        for places in value:
            self.assertIsInstance(places, list)
            self.assertTrue(all(type(place) is int for place in places))
        kinds = Kinds(house)
        middle = walked(house, message, way)[-1]
        self.assertNotEqual(first, second)
        for places in (first, second):
            walk = walked(house, middle, places)
            self.assertGreater(len(walk), 1)
            self.assertEqual(kinds.kind(walk[-1]), kinds.kind(middle))
            self.assertNotIn(kinds.kind(middle), [kinds.kind(one) for one in walk[1:-1]])

    def test_fibonacci(self):
        house = fibonacci()
        self.check(house, ("ann", "l", "", ()))
        self.check(house, ("ann", "m", "x" * 1000, tuple("abcdefgh")))
        self.assertIs(are_storm_rings(house=house, message=("a", "m", "", ()), value=storm_rings(
            house=house, message=("a", "m", "", ()))), True)

    def test_no_storms(self):
        for house, address in (
            (House(), "out"), (fibonacci(), "out"), (lists(a="a"), "a"), (lists(a="ab", b="b"), "a"), (lists(a="b"), "a"),
        ):
            message = ("ann", address, "", ())
            self.assertIsNone(storm_rings(house, message))
            for value in (([], [0], [0]), ([], [0], [1]), ([], [0], [0, 0]), ([0], [0], [0, 0]), ([], [], []), ([], [1], [0])):
                self.assertIs(are_storm_rings(house, message, value), False)

    def test_a_change_of_them_changes_nothing(self):
        house = fibonacci()
        message = ("ann", "m", "", ())
        for places in storm_rings(house, message):
            places.append(7)
        self.check(house, message)

    def test_far_on(self):
        house = lists(a="bz", b="cz", c="dz", d="zae", e="zfg", f="hz", g="hz", h="ze")
        house.set_list("d", ("z", "e"))
        self.check(house, ("ann", "a", "", ()))
        house.set_list("d", ("z", "a", "e"))
        self.check(house, ("ann", "a", "", ()))

    def test_other_values_than_the_returned_one(self):
        house = fibonacci()
        message = ("ann", "l", "", ())
        for value, result in (
            (([], [0], [1, 0]), True), (([], [1, 0], [0]), True), (([0], [0], [1, 0]), True), (([0, 0, 0], [0], [1, 0]), True),
            (([1], [0, 1], [0, 0, 1]), True), (([1, 0], [0], [1, 0]), True), (([1], [0, 0, 0, 1], [0, 1]), True),
            (([], [0], [0]), False), (([], [1, 0], [1, 0]), False), (([], [0], [0, 0]), False), (([], [0], [0, 1, 0]), False),
            (([], [1, 0], [1, 0, 0]), False), (([], [0], []), False), (([], [], [0]), False), (([], [], []), False),
            (([], [0], [1]), False), (([1], [0], [1, 0]), False), (([1], [0, 1], [0, 0]), False), (([2], [0], [1, 0]), False),
            (([], [2], [0]), False), (([], [0], [1, 1]), False), (([-1], [0, 1], [0, 0, 1]), False), (([], [0], [-1, 0]), False),
            (([], [0], [1, -1]), False), (([10 ** 59], [0], [1, 0]), False), (([], [10 ** 59], [0]), False),
        ):
            with self.subTest(value):
                self.assertIs(are_storm_rings(house, message, value), result)

    def test_wrong_values(self):
        house = fibonacci()
        message = ("ann", "l", "", ())
        right = ([], [0], [1, 0])
        for value in (
            *OTHER_VALUES, *OTHER_STRINGS, list(right), right[:2], (*right, []), ((), [0], [1, 0]), ([], (0,), [1, 0]),
            ([], [0], (1, 0)), ([], [False], [1, 0]), ([], [0], [True, 0]), ([], [0], [1, False]), ([False], [0], [1, 0]),
            ([None], [0], [1, 0]), ([], ["0"], [1, 0]), ([], [[0]], [1, 0]), ([], [0], [1, {}]), ({}, [0], [1, 0]),
            ([], {0: 0}, [1, 0]), ("", [0], [1, 0]), (None, [0], [1, 0]), ([], 0, [1, 0]), ([], [0], None), ([], [0.0], [1, 0]),
            (right, [0], [1, 0]), (right,) * 3, {"way": []},
        ):
            with self.subTest(value):
                self.assertIs(are_storm_rings(house, message, value), False)
                self.assertIs(are_storm_rings(house, ("ann", "out", "", ()), value), False)

    def test_through_one_place_that_is_no_offspring_that_arrives(self):
        house = lists(a="zab", b="za")
        message = ("ann", "a", "", ())
        self.check(house, message)
        self.assertIs(are_storm_rings(house, message, ([], [1], [2, 1])), True)
        self.assertIs(are_storm_rings(house, message, ([], [0], [2, 1])), False)
        self.assertIs(are_storm_rings(house, message, ([], [1], [2, 0])), False)
        self.assertIs(are_storm_rings(house, message, ([0], [1], [2, 1])), False)

    def test_kinds_and_not_messages_come_round(self):
        house = House()
        house.add_mailbox("box", [(("begins", "b"), (("tag", "a"), ("forward", "box"), ("forward", "box"))), (
            ("begins", "a"), (("tag", "b"), ("forward", "box")))])
        message = ("ann", "box", "b", ())
        self.check(house, message)
        # The first rule fires, then the second one for what it made of the message: three copies are sent.
        self.assertEqual([one[2] for one in arrive(house, message)[1]], ["ab", "ab", "bab"])
        self.assertIs(are_storm_rings(house, message, ([], [0, 0], [2])), True)
        self.assertIs(are_storm_rings(house, message, ([], [0, 0], [1, 0])), True)
        self.assertIs(are_storm_rings(house, message, ([], [0], [1])), False)

    def test_drawn(self):
        storms = 0
        for draw, house in [*cases(32, 300), *cases(32, 500, draw_busy_house)]:
            message = draw_message(draw, house)
            if growth(house, message) == "storm":
                storms += 1
                self.check(house, message)
            else:
                self.assertIsNone(storm_rings(house, message))
                for value in itertools.product(([], [0]), ([0], [1], [0, 0]), ([1], [0, 0], [1, 0])):
                    self.assertIs(are_storm_rings(house, message, value), False)
        self.assertGreater(storms, 30)


class CountAfterTest(unittest.TestCase):
    def test_by_hand(self):
        house = fibonacci()
        counts = [count_after(house, ("ann", "l", "", ()), hops) for hops in range(12)]
        self.assertEqual(counts, [1, 2, 3, 5, 8, 13, 21, 34, 55, 89, 144, 233])
        self.assertEqual(count_after(house=house, message=("ann", "m", "", ()), hops=3), 3)

    def test_outside(self):
        for house in (House(), fibonacci()):
            self.assertEqual([count_after(house, ("ann", "out", "", ()), hops) for hops in (0, 1, 2, 2000)], [1, 0, 0, 0])

    def test_what_leaves_counts_for_one_hop(self):
        house = lists(a="bxyz", b="xc", c="")
        counts = [count_after(house, ("ann", "a", "", ()), hops) for hops in range(6)]
        self.assertEqual(counts, [1, 4, 2, 0, 0, 0])
        self.assertEqual(count_after(house, ("ann", "a", "", ()), 2000), 0)

    def test_two_thousand_hops(self):
        house = House()
        names = [letter * 2 for letter in "abcdefghijklmnopqrst"]
        for at, name in enumerate(names):
            house.add_list(name, tuple((names + names)[at:at + 8]), tag="ab" if at % 3 else "")
        self.assertEqual(count_after(house, ("ann", "aa", "", ()), 2000), 8 ** 2000)
        house = lists(a="ab", b="bc", c="c")
        self.assertEqual(count_after(house, ("ann", "a", "", ()), 2000), 1 + 2000 + 2000 * 1999 // 2)

    def test_drawn(self):
        for draw, house in [*cases(33, 200), *cases(33, 200, draw_busy_house)]:
            message = draw_message(draw, house)
            for hops, way in enumerate(Course(house, message, 12, 400).ways):
                self.assertEqual(count_after(house, message, hops), len(way))

    def test_asked_anew(self):
        house = fibonacci()
        message = ("ann", "l", "", ())
        self.assertEqual(count_after(house, message, 3), 5)
        house.set_list("l", ("l", "m", "out"))
        self.assertEqual((count_after(house, message, 1), growth(house, message)), (3, "storm"))
        house.remove("m")
        self.assertEqual((count_after(house, message, 5), growth(house, message)), (3, 0))
        self.assertEqual(len(after_hops(house, message, 5)), 3)
        house.remove("l")
        self.assertEqual((count_after(house, message, 0), growth(house, message)), (1, None))


class FewestCutsTest(unittest.TestCase):
    def check(self, house, many):
        before = house.copied()
        cuts = fewest_cuts(house)
        self.assertIsInstance(cuts, list)
        self.assertEqual(len(cuts), many, cuts)
        self.assertIsNone(first_endless(house.with_cuts(cuts)))
        self.assertEqual(house, before)
        cuts.append("more")
        self.assertEqual(len(fewest_cuts(house=house)), many)

    def test_none_needed(self):
        self.check(House(), 0)
        self.check(lists(a="bz", b="z"), 0)
        house = House()
        house.add_mailbox("box", [(("not", ("marked", "auto")), (("reply", "re"),))])
        self.check(house, 0)

    def test_lists(self):
        for members, many in (
            ({"a": "a"}, 1), ({"a": "ab", "b": "b"}, 2), ({"a": "b", "b": "c", "c": "a"}, 1), ({"a": "bc", "b": "a", "c": "a"}, 2),
            ({"a": "b", "b": "cd", "c": "a", "d": "a"}, 1), ({"a": "bc", "b": "ca", "c": "ab"}, 3), ({"a": "bcd", "b": "acd", "c": "abd", "d": "abc"}, 6),
            ({"a": "abc", "b": "abc", "c": "abc"}, 6), ({"a": "b", "b": "a", "c": "d", "d": "c", "e": "e", "f": "gz", "g": "f"}, 4),
        ):
            with self.subTest(members):
                self.check(lists(**members), many)

    def test_one_cut_for_many_kinds_and_rings(self):
        house = House()
        house.add_mailbox("box", [(ALWAYS, (("forward", "post"), ("forward", "mail"), ("reply", "re")))])
        house.add_alias("post", "last")
        house.add_alias("mail", "last")
        house.add_list("last", ("box",), tag="t", mark="m")
        self.check(house, 2)
        self.assertIn(("sent", "box", 0, 2), fewest_cuts(house))
        house.set_rules("box", [(("marked", "m"), (("forward", "post"),)), (("contains", "t"), (("forward", "mail"),))])
        self.check(house, 1)
        self.assertEqual(fewest_cuts(house), [("member", "last", "box")])

    def test_a_rule_that_fires_for_some(self):
        house = House()
        house.add_mailbox("box", [
            (("from", ("ann",)), (("tag", "x"), ("forward", "box"), ("stop",))), (("ends", "abc"), (("file", "y"), ("forward", "box")))])
        self.check(house, 2)
        self.assertEqual(sorted(fewest_cuts(house)), [("sent", "box", 0, 1), ("sent", "box", 1, 1)])

    def test_two_copies_to_the_same_place(self):
        house = House()
        house.add_mailbox("box", [(ALWAYS, (("forward", "box"),) * 3)])
        self.check(house, 3)
        house.set_rules("box", [(ALWAYS, (("forward", "post"),) * 6)] * 10)
        house.add_alias("post", "box")
        self.check(house, 1)
        self.assertEqual(fewest_cuts(house), [("alias", "post")])

    def test_a_sender_who_is_a_member_no_more(self):
        house = House()
        house.add_list("box", ("a", "b", "c"), closed=True)
        for name in "abc":
            house.add_alias(name, "box")
        # Each message comes round by each of the three members. If its sender is none any more, it does not come in.
        self.check(house, 3)
        house.remove("b")
        self.check(house, 2)

    def test_a_closed_list_that_takes_one_sender(self):
        house = House()
        house.add_list("box", ("list", "post", "mail"), closed=True)
        house.add_mailbox("list", [(("from", ("list",)), (("forward", "box"),))])
        house.add_mailbox("post", [(("from", ("list",)), (("forward", "box"),))])
        house.add_mailbox("mail", [(("from", ("list",)), (("forward", "box"),))])
        # Three rings, which only the sender who is told as the member "list" goes through.
        self.check(house, 1)
        self.assertEqual(fewest_cuts(house), [("member", "box", "list")])
        house.set_list("box", ("list", "post", "mail"))
        self.check(house, 3)

    def test_replies(self):
        house = House()
        for name in "abc":
            house.add_mailbox(name, [(("from", tuple(other for other in "abc" if other != name)), (("reply", "r"),))])
        self.check(house, 2)

    def test_drawn(self):
        found = {}
        for draw, house in [*cases(34, 100), *cases(34, 250, draw_busy_house)]:
            cuts = fewest_cuts(house)
            found[len(cuts)] = found.get(len(cuts), 0) + 1
            self.assertIsNone(first_endless(house.with_cuts(cuts)))
            for many in range(min(len(cuts), 3)):
                for fewer in itertools.combinations(all_cuts(house), many):
                    self.assertIsNotNone(first_endless(house.with_cuts(fewer)))
        for many in (0, 1, 2, 3):
            self.assertGreater(found.get(many, 0), 0, found)

    def test_asked_anew(self):
        house = fibonacci()
        self.check(house, 2)
        house.remove("m")
        self.check(house, 1)
        house.add_alias("m", "m")
        self.check(house, 2)


if __name__ == "__main__":
    unittest.main()
