"""Point [17] and its part of [11] and [12]: alike.py."""

import unittest

from mailrings.alike import changeable, differing, first_different, simplified, spare_rules
from mailrings.houses import House
from mailrings.names import message_key
from mailrings.numbers import filings, leavings
from tests.samples import (
    ALWAYS, NEVER, Course, cases, draw_action, draw_busy_house, draw_condition, draw_house, draw_message, draw_rule,
    mailbox_rules, short_messages, without)


def mailbox(*rules):
    """Return a house with a mailbox."""
    house = House()
    house.add_mailbox("box", rules)
    return house


def example():
    """Return the two houses of the document's example."""
    rule = (("contains", "b"), (("file", "b"),))
    return mailbox((("contains", "ab"), (("drop",),)), rule), mailbox(rule)


def numbers(house, message):
    """Return the dicts of the numbers of filings and leavings."""
    return filings(house, message), leavings(house, message)


# A rule that marks, one that drops what is not marked, and one that files all.
MARKING = (("begins", "c"), (("mark", "m"),))
DROPPING = (("all", (("begins", "c"), ("not", ("marked", "m")))), (("drop",),))


class FirstDifferentTest(unittest.TestCase):
    def test_the_example(self):
        house, other = example()
        self.assertEqual(
            [first_different(house, other), spare_rules(house), changeable(house)], [("a", "box", "ab", ()), [], []])
        self.assertEqual(first_different(first=house, second=other), ("a", "box", "ab", ()))

    def check(self, house, other, message):
        self.assertEqual(first_different(house, other), message)
        self.assertEqual(first_different(other, house), message)
        if message is not None:
            self.assertNotEqual(differing(house, other, message), [])

    def test_the_same_house(self):
        house, _ = example()
        self.check(house, house, None)
        self.check(house, house.copied(), None)
        self.check(House(), House(), None)
        for _, house in cases(51, 60):
            self.check(house, house, None)

    def test_addresses_that_one_house_alone_has(self):
        house = mailbox()
        self.check(house, House(), ("a", "box", "", ()))
        other = mailbox()
        other.add_alias("zed", "box")
        self.check(house, other, ("a", "zed", "", ()))
        house.add_list("b", ())
        self.check(house, other, ("a", "b", "", ()))
        house.add_list("a", ("a",))
        self.check(house, other, ("a", "a", "", ()))
        # A message to what both have may come before it.
        house, other = mailbox((ALWAYS, (("forward", "zed"),))), mailbox((ALWAYS, (("forward", "zed"),)))
        other.add_mailbox("zed")
        self.check(house, other, ("a", "box", "", ()))
        house, other = mailbox((("is", "x"), (("forward", "zed"),))), mailbox((("is", "x"), (("forward", "zed"),)))
        other.add_mailbox("zed", [(ALWAYS, (("forward", "zed"),))])
        self.check(house, other, ("a", "zed", "", ()))

    def test_least_messages(self):
        for one, two, message in (
            ((ALWAYS, ()), (NEVER, ()), None),
            ((ALWAYS, (("tag", "x"),)), (ALWAYS, (("mark", "x"),)), None),
            ((ALWAYS, (("file", "a"),)), (ALWAYS, (("file", "b"),)), ("a", "box", "", ())),
            ((ALWAYS, (("file", "inbox"),)), (ALWAYS, ()), None),
            ((ALWAYS, (("file", "a"),)), (ALWAYS, (("file", "a"), ("file", "a"))), ("a", "box", "", ())),
            ((ALWAYS, (("file", "a"), ("file", "b"))), (ALWAYS, (("file", "b"), ("file", "a"))), None),
            ((("begins", "a"), (("drop",),)), (("ends", "a"), (("drop",),)), ("a", "box", " a", ())),
            ((("begins", "b"), (("drop",),)), (("is", "b"), (("drop",),)), ("a", "box", "b ", ())),
            ((("contains", "b"), (("drop",),)), (("not", ("contains", "c")), (("drop",),)), ("a", "box", "", ())),
            ((("marked", "m"), (("drop",),)), (NEVER, ()), ("a", "box", "", ("m",))),
            ((("marked", "m"), (("drop",),)), (("marked", "n"), (("drop",),)), ("a", "box", "", ("m",))),
            ((("any", (("marked", "m"), ("marked", "n"))), (("drop",),)), (("marked", "n"), (("drop",),)), ("a", "box", "", ("m",))),
            ((("all", (("marked", "m"), ("marked", "n"))), (("drop",),)), (NEVER, ()), ("a", "box", "", ("m", "n"))),
            ((("from", ("bob", "eve")), (("drop",),)), (("from", ("eve",)), (("drop",),)), ("bob", "box", "", ())),
            ((("not", ("from", ("a",))), (("drop",),)), (ALWAYS, (("drop",),)), ("a", "box", "", ())),
            ((("not", ("from", ("a",))), (("drop",),)), (NEVER, ()), ("aa", "box", "", ())),
            ((ALWAYS, (("reply", "x"),)), (NEVER, ()), ("a", "box", "", ())),
            ((ALWAYS, (("reply", "x"),)), (ALWAYS, (("reply", "y"),)), None),
            ((ALWAYS, (("forward", "zed"),)), (ALWAYS, (("reply", "x"),)), ("a", "box", "", ())),
            ((("from", ("zed",)), (("forward", "zed"),)), (("from", ("zed",)), (("reply", "x"),)), None),
            ((("not", ("from", ("box",))), (("reply", "x"),)),
             (("not", ("from", ("box", "zed"))), (("reply", "x"),)), ("zed", "box", "", ())),
        ):
            with self.subTest((one, two)):
                self.check(mailbox(one), mailbox(two), message)

    def test_arrivals_and_subjects_are_not_compared(self):
        house, other = House(), House()
        house.add_alias("a", "b")
        house.add_alias("b", "out")
        other.add_alias("a", "out")
        other.add_list("b", ("out",), tag="tag", mark="mark")
        self.check(house, other, None)

    def test_endless_numbers(self):
        house, other = House(), House()
        for one in (house, other):
            one.add_list("ring", ("ring", "box"))
            one.add_mailbox("box")
        self.check(house, other, None)
        other.set_list("ring", ("box", "ring"))
        self.check(house, other, None)
        house.set_rules("box", [(("is", "a"), (("forward", "ring"),))])
        self.check(house, other, ("a", "box", "a", ()))
        other.set_rules("box", [(("is", "a"), (("forward", "ring"), ("forward", "ring")))])
        self.check(house, other, None)
        other.set_list("ring", ("box", "ring", "out"))
        self.check(house, other, ("a", "ring", "", ()))

    def test_a_ring_by_which_nothing_is_filed(self):
        house, other = House(), House()
        house.add_list("l", ("l",))
        other.add_list("l", ())
        self.check(house, other, None)

    def test_both_houses_ask(self):
        # What one house tags, the other one asks; each alone has less tests.
        house, other = mailbox((("begins", "aa"), (("tag", "b"), ("forward", "far")))), mailbox()
        self.check(house, other, ("a", "box", "aa", ()))
        for one in (house, other):
            one.add_mailbox("far", [(("begins", "baab"), (("drop",),))])
        self.check(house, other, ("a", "box", "aa", ()))
        other.set_rules("box", [(("begins", "aa"), (("forward", "far"), ("tag", "b")))])
        self.check(house, other, ("a", "box", "aab", ()))

    def test_drawn_houses(self):
        none = some = beyond = 0
        for draw, house in cases(52, 150):
            other = house.copied()
            if draw.random() < 0.3:
                other = draw_house(draw)
            elif mailbox_rules(house):
                name, place = draw.choice(mailbox_rules(house))
                rules = list(house.rules_of(name))
                rules[place] = draw_rule(draw, house.addresses)
                other.set_rules(name, rules)
            found = first_different(house, other)
            self.assertEqual(first_different(other, house), found)
            addresses = [*house.addresses, *other.addresses, "none"]
            messages = short_messages(house, addresses, other.addresses, ["x"], 2, "abc ")
            messages = draw.sample(messages, min(len(messages), 500))
            if found is None:
                none += 1
            else:
                some += 1
                self.assertNotEqual(differing(house, other, found), [])
                messages = [message for message in messages if message_key(message) < message_key(found)]
                beyond += not messages
            for message in messages:
                self.assertEqual(differing(house, other, message), [])
        self.assertGreater(none, 30)
        self.assertGreater(some, 50)


class DifferingTest(unittest.TestCase):
    def test_rows(self):
        house, other = House(), House()
        house.add_list("list", ("box", "out", "zed", "list"))
        other.add_list("list", ("box", "out", "far", "fat"))
        house.add_mailbox("box", [(ALWAYS, (("file", "x"), ("file", "b")))])
        other.add_mailbox("box", [(ALWAYS, (("file", "b"), ("file", "a")))])
        self.assertEqual(differing(house, other, ("ann", "list", "", ())), [
            ("filed", "box", "a", 0, 1), ("filed", "box", "b", None, 1), ("filed", "box", "x", None, 0),
            ("left", "far", 0, 1), ("left", "fat", 0, 1), ("left", "out", None, 1), ("left", "zed", None, 0),
        ])
        self.assertEqual(differing(other, house, ("ann", "box", "", ())), [
            ("filed", "box", "a", 1, 0), ("filed", "box", "x", 0, 1)])
        self.assertEqual(differing(first=house, second=other, message=["ann", "none", "", []]), [])
        self.assertEqual(differing(house, house, ("ann", "list", "", ())), [])

    def test_an_address_that_one_house_alone_has(self):
        house = mailbox((ALWAYS, (("reply", "x"),)))
        self.assertEqual(differing(house, House(), ("bob", "box", "", ())), [
            ("filed", "box", "inbox", 1, 0), ("left", "bob", 1, 0), ("left", "box", 0, 1)])
        self.assertEqual(differing(House(), House(), ("bob", "box", "", ())), [])

    def test_drawn_houses(self):
        for draw, house in cases(53, 200):
            other = draw_house(draw)
            message = draw_message(draw, house)
            expected = []
            (one_filed, one_left), (two_filed, two_left) = numbers(house, message), numbers(other, message)
            for key in sorted({*one_filed, *two_filed}):
                expected.append(("filed", *key, one_filed.get(key, 0), two_filed.get(key, 0)))
            for key in sorted({*one_left, *two_left}):
                expected.append(("left", key, one_left.get(key, 0), two_left.get(key, 0)))
            self.assertEqual(differing(house, other, message), [row for row in expected if row[-1] != row[-2]])

    def test_against_courses(self):
        seen = 0
        for draw, house in cases(54, 100):
            other = draw_house(draw)
            message = draw_message(draw, house)
            one, two = Course(house, message), Course(other, message)
            if one.is_over and two.is_over:
                seen += 1
                alike = one.filings == two.filings and one.leavings == two.leavings
                self.assertEqual(differing(house, other, message) == [], alike)
        self.assertGreater(seen, 50)


class SpareRulesTest(unittest.TestCase):
    def test_rules(self):
        file_a = (("begins", "a"), (("file", "a"),))
        file_always = (ALWAYS, (("file", "a"),))
        stop = (("begins", "a"), (("stop",),))
        for rules, spare in (
            ([], []),
            ([(NEVER, (("drop",),))], [0]),
            ([(ALWAYS, ())], [0]),
            ([(ALWAYS, (("tag", "x"), ("mark", "m")))], [0]),
            ([(ALWAYS, (("file", "inbox"),))], [0]),
            ([(ALWAYS, (("stop",),))], [0]),
            ([(ALWAYS, (("drop",),))], []),
            ([(ALWAYS, (("drop",),)), (ALWAYS, (("drop",),))], [0, 1]),
            ([(ALWAYS, (("drop",),)), file_a], [1]),
            ([file_a, file_a], []),
            ([(ALWAYS, (("mark", "m"),)), (ALWAYS, (("mark", "m"),)), (("marked", "m"), (("drop",),))], [0, 1]),
            ([(("begins", "a"), (("file", "a"), ("stop",)))] * 2, [0, 1]),
            ([file_always, stop], [1]),
            ([stop, file_a], [1]),
            ([stop, file_always], []),
            ([MARKING, DROPPING], [1]),
            ([MARKING, DROPPING, (("marked", "m"), (("file", "m"),))], [1]),
        ):
            with self.subTest(rules):
                house = mailbox(*rules)
                self.assertEqual(spare_rules(house), [("box", place) for place in spare])
                self.assertEqual(spare_rules(house=house), [("box", place) for place in spare])

    def test_what_comes_of_it_elsewhere(self):
        house = mailbox((("begins", "a"), (("tag", "x"),)), (ALWAYS, (("forward", "post"),)))
        house.add_alias("post", "far")
        self.assertEqual(spare_rules(house), [("box", 0)])
        house.add_mailbox("far", [(("is", "xab"), (("drop",),)), (("ends", "bc"), ())])
        self.assertEqual(spare_rules(house), [("far", 1)])
        house.add_list("list", ("box",))
        self.assertEqual(spare_rules(house), [("far", 1)])
        house.remove("post")
        self.assertEqual(spare_rules(house), [("box", 0), ("far", 1)])

    def test_rings(self):
        rule = (ALWAYS, (("forward", "box"),))
        self.assertEqual(spare_rules(mailbox(rule)), [])
        self.assertEqual(spare_rules(mailbox(rule, rule)), [("box", 0), ("box", 1)])
        self.assertEqual(spare_rules(mailbox((ALWAYS, (("drop",),)), rule)), [("box", 1)])
        self.assertEqual(spare_rules(mailbox((ALWAYS, (("forward", "box"), ("drop",))))), [])
        house = House()
        house.add_mailbox("box", [(("is", "a"), (("forward", "post"), ("drop",))), (("is", "a"), (("drop",),))])
        house.add_alias("post", "post")
        # Nothing is filed and nothing leaves by what comes round.
        self.assertEqual(spare_rules(house), [("box", 0), ("box", 1)])

    def test_none(self):
        self.assertEqual(spare_rules(House()), [])
        house = House()
        house.add_list("l", ("l",))
        self.assertEqual([spare_rules(house), changeable(house)], [[], []])

    def check_drawn(self, seed, many, drawn):
        spare_ones = 0
        for draw, house in cases(seed, many, drawn):
            spare = spare_rules(house)
            spare_ones += len(spare)
            rules = mailbox_rules(house)
            self.assertEqual(spare, [rule for rule in rules if first_different(house, house.without_rule(*rule)) is None])
            neighbours = [(name, place) for name, place in rules if (name, place + 1) in rules]
            self.assertEqual(changeable(house), [
                rule for rule in neighbours if first_different(house, house.with_rules_changed(*rule)) is None])
        return spare_ones

    def test_drawn_houses(self):
        self.assertGreater(self.check_drawn(55, 150, draw_house), 50)
        self.assertGreater(self.check_drawn(56, 80, draw_busy_house), 10)

    def test_crowded_mailboxes(self):
        def drawn(draw):
            house = House()
            for name in ("m", "n"):
                rules = [
                    (draw_condition(draw, 1), tuple(draw_action(draw, ["m", "n"], at == 1) for at in range(2)))
                    for _ in range(draw.randint(2, 6))]
                house.add_mailbox(name, rules)
            return house
        self.assertGreater(self.check_drawn(57, 40, drawn), 30)


class ChangeableTest(unittest.TestCase):
    def test_rules(self):
        file_a, file_b = (("begins", "a"), (("file", "a"),)), (("begins", "b"), (("file", "b"),))
        drop_a, drop_b = (("begins", "a"), (("drop",),)), (("ends", "b"), (("drop",),))
        for rules, found in (
            ([], []), ([file_a], []), ([file_a, file_b], [0]), ([file_a, file_a, file_b], [0, 1]),
            ([file_a, (ALWAYS, (("file", "c"),))], [0]), ([file_a, drop_a], []), ([drop_a, drop_b], [0]),
            ([drop_a, file_b], [0]), ([drop_b, file_b], []), ([drop_b, file_b, file_a], [1]),
            ([(ALWAYS, (("stop",),)), file_a], []), ([(ALWAYS, (("stop",),)), file_a, drop_a], [1]),
            ([MARKING, DROPPING], []), ([MARKING, DROPPING, MARKING], [1]),
            ([(ALWAYS, (("tag", "a"),)), file_a], []), ([(ALWAYS, (("tag", "c"),)), (("ends", "b"), (("file", "b"),))], [0]),
            ([(ALWAYS, (("tag", "x"), ("forward", "zed"))), (ALWAYS, (("tag", "y"), ("forward", "out")))], [0]),
        ):
            with self.subTest(rules):
                self.assertEqual(changeable(mailbox(*rules)), [("box", place) for place in found])
                self.assertEqual(changeable(house=mailbox(*rules)), [("box", place) for place in found])

    def test_several_mailboxes(self):
        house = House()
        for name in ("c", "a", "b"):
            house.add_mailbox(name, [(NEVER, ())] * 3)
        self.assertEqual(changeable(house), [(name, place) for name in "abc" for place in (0, 1)])
        self.assertEqual(spare_rules(house), [(name, place) for name in "abc" for place in (0, 1, 2)])


class SimplifiedTest(unittest.TestCase):
    def check(self, house):
        before = house.copied()
        simple = simplified(house)
        self.assertEqual(house, before)
        self.assertIsInstance(simple, House)
        self.assertEqual(simple.addresses, house.addresses)
        for name in house.addresses:
            sort = house.sort_of(name)
            self.assertEqual(simple.sort_of(name), sort)
            if sort == "mailbox":
                rest = iter(house.rules_of(name))
                self.assertTrue(all(rule in rest for rule in simple.rules_of(name)))
            elif sort == "list":
                self.assertEqual(simple.list_of(name), house.list_of(name))
            else:
                self.assertEqual(simple.target_of(name), house.target_of(name))
        self.assertIsNone(first_different(house, simple))
        self.assertEqual(spare_rules(simple), [])
        return sum(len(simple.rules_of(name)) for name, place in mailbox_rules(simple) if place == 0)

    def test_rules(self):
        for rules, many in (
            ([], 0), ([(NEVER, ())] * 10, 0), ([(ALWAYS, (("drop",),))] * 10, 1), ([MARKING, DROPPING], 0),
            ([MARKING, DROPPING, (("marked", "m"), (("file", "m"),))], 2),
            ([(("is", "a"), (("file", "a"),)), (("is", "b"), (("file", "b"),))], 2),
        ):
            with self.subTest(rules):
                self.assertEqual(self.check(mailbox(*rules)), many)
        self.assertEqual(simplified(house=mailbox((NEVER, ()))).rules_of("box"), ())

    def test_a_rule_that_may_be_left_out_only_as_long_as_another_one_stands(self):
        rule = (("begins", "c"), (("file", "a"), ("stop",)))
        house = mailbox(rule, (ALWAYS, (("tag", "c"),)), rule)
        self.assertEqual(self.check(mailbox(rule, rule)), 1)
        self.assertEqual(self.check(house), 2)
        # The first one marks for the second one, which drops what was not marked: with it gone, the first one may go.
        self.assertEqual(spare_rules(mailbox(MARKING, DROPPING)), [("box", 1)])
        self.assertEqual(self.check(mailbox(MARKING, DROPPING)), 0)

    def test_rules_of_two_mailboxes_of_which_one_must_stay(self):
        # Both send what comes round to the ring, but it is enough if one of them does.
        house = House()
        for name, other in (("p", "q"), ("q", "p")):
            house.add_mailbox(name, [(ALWAYS, (("forward", "ring"),)), (ALWAYS, (("forward", other), ("drop",)))])
        house.add_list("ring", ("ring", "out"))
        self.assertEqual(spare_rules(house), [("p", 0), ("q", 0)])
        self.assertEqual(self.check(house), 3)

    def test_empty_houses(self):
        self.assertEqual(self.check(House()), 0)
        self.assertEqual(simplified(House()), House())

    def test_a_new_house(self):
        house = mailbox((ALWAYS, (("drop",),)))
        simple = simplified(house)
        self.assertEqual(simple, house)
        simple.remove("box")
        self.assertEqual(house.addresses, ["box"])
        self.assertEqual(simplified(house), house)

    def test_drawn_houses(self):
        less = 0
        for seed, many, drawn in ((58, 120, draw_house), (59, 60, draw_busy_house)):
            for _, house in cases(seed, many, drawn):
                less += len(mailbox_rules(house)) - self.check(house)
        self.assertGreater(less, 80)

    def test_several_rules_out_of_one_mailbox(self):
        for draw, house in cases(60, 40):
            name = house.addresses[0]
            if house.sort_of(name) == "mailbox":
                rules = list(house.rules_of(name))
                for rule in [*rules, (NEVER, (("drop",),))]:
                    rules.insert(draw.randint(0, len(rules)), rule)
                house.set_rules(name, rules)
                self.check(house)


class ChangedHousesTest(unittest.TestCase):
    def test_a_changed_house_is_asked_anew(self):
        house = mailbox((("is", "a"), (("drop",),)), (("is", "b"), (("drop",),)))
        other = house.copied()
        self.assertIsNone(first_different(house, other))
        self.assertEqual((spare_rules(house), changeable(house)), ([], [("box", 0)]))
        house.set_rules("box", [(NEVER, ()), (("is", "c"), (("drop",),)), (("is", "b"), (("drop",),))])
        self.assertEqual(first_different(house, other), ("a", "box", "a", ()))
        self.assertEqual((spare_rules(house), changeable(house)), ([("box", 0)], [("box", 0), ("box", 1)]))
        self.assertEqual(simplified(house).rules_of("box"), without(house, "box", [0]).rules_of("box"))
        house.remove("box")
        self.assertEqual((spare_rules(house), changeable(house), simplified(house)), ([], [], House()))

    def test_what_is_passed_in_stays(self):
        for _, house in cases(61, 20):
            other = draw_house(_)
            before = house.copied(), other.copied()
            first_different(house, other)
            spare_rules(house).clear()
            changeable(house).clear()
            self.assertEqual((house, other), before)


if __name__ == "__main__":
    unittest.main()
