"""Point [16]: firing.py."""

import unittest

from mailrings.arrivals import firing
from mailrings.errors import BadPlace, MailError, UnknownName
from mailrings.firing import first_firing, firings, idle_rules
from mailrings.houses import House
from mailrings.names import message_key
from tests.samples import ALWAYS, NEVER, cases, mailbox_rules, short_messages
from tests.values import OTHER_STRINGS, OTHER_VALUES


def mailbox(*rules):
    """Return a house with a mailbox."""
    house = House()
    house.add_mailbox("box", rules)
    return house


def example():
    """Return the house of the document's example."""
    return mailbox((("contains", "a"), (("stop",),)), (("contains", "ba"), ()))


class FirstFiringTest(unittest.TestCase):
    def check(self, house, *messages):
        for place, message in enumerate(messages):
            with self.subTest(place):
                self.assertEqual(first_firing(house, "box", place), message)
                if message is not None:
                    self.assertIn(place, firing(house, message))

    def test_the_example(self):
        self.check(example(), ("a", "box", "a", ()), None)
        self.assertEqual(first_firing(house=example(), name="box", place=0), ("a", "box", "a", ()))

    def test_conditions(self):
        self.check(mailbox(
            (NEVER, ()), (ALWAYS, ()), (("is", "ab"), ()), (("is", ""), ()), (("ends", "ba"), ()), (("begins", "b"), ()),
            (("marked", "m"), ()), (("not", ("contains", " ")), ()), (("from", ("bob", "eve")), ()),
            (("all", (("marked", "m"), ("marked", "a"), ("not", ("is", "")))), ()),
        ), None, ("a", "box", "", ()), ("a", "box", "ab", ()), ("a", "box", "", ()), ("a", "box", "ba", ()),
           ("a", "box", "b", ()), ("a", "box", "", ("m",)), ("a", "box", "", ()), ("bob", "box", "", ()),
           ("a", "box", " ", ("a", "m")))

    def test_rules_before_it(self):
        self.check(mailbox(
            (("begins", "x"), (("tag", "ab"), ("mark", "m"))), (("begins", "abx"), ()), (("marked", "m"), (("stop",),)),
            (("contains", "x"), ()), (("begins", "x"), ()), (("begins", "a"), (("file", "a"), ("drop",))), (("is", "a"), ()),
        ), ("a", "box", "x", ()), ("a", "box", "x", ()), ("a", "box", "", ("m",)), ("a", "box", " x", ()), None,
           ("a", "box", "a", ()), None)

    def test_who_is_no_mailbox(self):
        house = example()
        house.add_list("list", ("box",))
        house.add_alias("post", "box")
        for value in (*OTHER_VALUES, *OTHER_STRINGS, "list", "post", "out", "boxe", ["box"], ("box",)):
            with self.subTest(value):
                for call in (
                    lambda: first_firing(house, value, 0), lambda: first_firing(house, value, None),
                    lambda: firings(house, value),
                ):
                    with self.assertRaises(UnknownName) as caught:
                        call()
                    self.assertIs(caught.exception.name, value)
                    self.assertIsInstance(caught.exception, MailError)

    def test_what_is_no_place(self):
        empty = House()
        empty.add_mailbox("box")
        for house, values in (
            (example(), (*[value for value in OTHER_VALUES if type(value) is not int], *OTHER_STRINGS, -1, 2, 10 ** 59, (0,), [0])),
            (empty, (0, -1, None, False)),
        ):
            for value in values:
                with self.subTest(value):
                    with self.assertRaises(BadPlace) as caught:
                        first_firing(house, "box", value)
                    self.assertIs(caught.exception.value, value)


class FiringsTest(unittest.TestCase):
    def test_the_example(self):
        self.assertEqual(
            [firings(example(), "box"), idle_rules(example())],
            [[((), ("a", "box", "", ())), ((0,), ("a", "box", "a", ()))], [("box", 1)]])
        self.assertEqual(firings(house=example(), name="box"), firings(example(), "box"))
        self.assertEqual(idle_rules(house=example()), [("box", 1)])

    def test_a_mailbox_without_rules(self):
        house = mailbox()
        self.assertEqual(firings(house, "box"), [((), ("a", "box", "", ()))])
        self.assertEqual(idle_rules(house), [])

    def test_a_house_without_addresses(self):
        self.assertEqual(idle_rules(House()), [])

    def test_order(self):
        house = mailbox(
            (("from", ("a",)), ()), (("marked", "m"), ()), (("begins", "b"), ()), (("all", (("is", "bb"), ("marked", "n"))), ()))
        self.assertEqual(firings(house, "box"), [
            ((0,), ("a", "box", "", ())), ((), ("aa", "box", "", ())),
            ((0, 1), ("a", "box", "", ("m",))), ((1,), ("aa", "box", "", ("m",))),
            ((0, 2), ("a", "box", "b", ())), ((2,), ("aa", "box", "b", ())),
            ((0, 1, 2), ("a", "box", "b", ("m",))), ((1, 2), ("aa", "box", "b", ("m",))),
            ((0, 2, 3), ("a", "box", "bb", ("n",))), ((2, 3), ("aa", "box", "bb", ("n",))),
            ((0, 1, 2, 3), ("a", "box", "bb", ("m", "n"))), ((1, 2, 3), ("aa", "box", "bb", ("m", "n"))),
        ])

    def test_a_rule_that_stands_twice(self):
        rule = (("begins", "b"), (("mark", "m"),))
        self.assertEqual(firings(mailbox(rule, rule), "box"), [((), ("a", "box", "", ())), ((0, 1), ("a", "box", "b", ()))])
        rule = (("begins", "b"), (("tag", "a"),))
        self.assertEqual(firings(mailbox(rule, rule), "box"), [((), ("a", "box", "", ())), ((0,), ("a", "box", "b", ()))])
        self.assertEqual(idle_rules(mailbox(rule, rule)), [("box", 1)])

    def test_idle_rules_of_several_mailboxes(self):
        house = mailbox((NEVER, ()), (ALWAYS, (("drop",),)), (ALWAYS, ()))
        house.add_mailbox("a", [(ALWAYS, ()), (("all", (("is", "a"), ("is", "b"))), ())])
        house.add_mailbox("zed", [(("all", (("begins", "ab"), ("is", "b"))), ())])
        house.add_list("list", ("box",))
        house.add_alias("post", "box")
        self.assertEqual(idle_rules(house), [("a", 1), ("box", 0), ("box", 2), ("zed", 0)])

    def test_ten_rules_are_ordered_as_numbers(self):
        house = mailbox(*[(NEVER, ())] * 10)
        self.assertEqual(idle_rules(house), [("box", place) for place in range(10)])


class DrawnTest(unittest.TestCase):
    def test_all_short_messages(self):
        fired_late = 0
        for _, house in cases(41, 120):
            idle = idle_rules(house)
            self.assertEqual(idle, [rule for rule in mailbox_rules(house) if first_firing(house, *rule) is None])
            for name in {name for name, _ in mailbox_rules(house)}:
                found = firings(house, name)
                keys = [message_key(message) for _, message in found]
                self.assertEqual(keys, sorted(keys))
                self.assertEqual(len({places for places, _ in found}), len(found))
                least = dict(found)
                for places, message in found:
                    self.assertEqual(firing(house, message), places)
                    self.assertEqual(message[1], name)
                seen = {}
                for message in short_messages(house, [name], [], ["a"], 3):
                    seen.setdefault(firing(house, message), message)
                fired_late += len(set(least) - set(seen))
                for places, message in seen.items():
                    self.assertEqual(least[places], message)
                for place in range(len(house.rules_of(name))):
                    with_it = [message for places, message in found if place in places]
                    self.assertEqual(first_firing(house, name, place), with_it[0] if with_it else None)
        self.assertLess(fired_late, 20)


class ChangedHousesTest(unittest.TestCase):
    def test_a_changed_house_is_asked_anew(self):
        house = mailbox((("is", "b"), ()))
        self.assertEqual(first_firing(house, "box", 0), ("a", "box", "b", ()))
        house.set_rules("box", [(("is", "c"), ()), (NEVER, ())])
        self.assertEqual(first_firing(house, "box", 0), ("a", "box", "c", ()))
        self.assertEqual(idle_rules(house), [("box", 1)])
        # Another address makes its name known, and so it is another one that is strange.
        house.add_alias("a", "box")
        self.assertEqual(firings(house, "box"), [((), ("a", "box", "", ())), ((0,), ("a", "box", "c", ()))])
        house.remove("box")
        with self.assertRaises(UnknownName):
            firings(house, "box")

    def test_lists_are_new(self):
        house = example()
        firings(house, "box").clear()
        idle_rules(house).clear()
        self.assertEqual([len(firings(house, "box")), len(idle_rules(house))], [2, 1])
        before = house.copied()
        first_firing(house, "box", 0)
        self.assertEqual(house, before)


if __name__ == "__main__":
    unittest.main()
