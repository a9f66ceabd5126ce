"""Points [8], [9], [10], [14] (the messages on their way) and [16]: arrivals.py."""

import unittest

from mailrings.arrivals import after_hops, arrive, firing
from mailrings.errors import BadMessage, UnknownName
from mailrings.houses import House
from tests.samples import ALWAYS, NEVER, Course, cases, draw_message
from tests.values import OTHER_STRINGS, OTHER_VALUES

HI = ("ann", "box", "hi", ())


def with_box(*rules):
    """Return a house with a mailbox that has the rules."""
    house = House()
    house.add_mailbox("box", rules)
    return house


def with_list(members, **more):
    """Return a house with a list."""
    house = House()
    house.add_list("list", members, **more)
    return house


class MailboxTest(unittest.TestCase):
    def check(self, actions, filed, sent, message=HI):
        with self.subTest(actions):
            self.assertEqual(arrive(with_box((ALWAYS, actions)), message), (filed, sent))

    def test_the_example(self):
        house = with_box((("contains", "hi"), (("tag", "+"), ("reply", "re "), ("file", "old"))))
        house.add_list("team", ("box", "zed"), tag="(t)", mark="many")
        self.assertEqual(arrive(house, ("ann", "box", "hi", ())), (["old"], [("box", "ann", "re +hi", ("auto",))]))
        self.assertEqual(
            arrive(house, ("ann", "team", "x", ())),
            ([], [("ann", "box", "(t)x", ("many",)), ("ann", "zed", "(t)x", ("many",))]))

    def test_inbox(self):
        self.assertEqual(arrive(with_box(), HI), (["inbox"], []))
        self.assertEqual(arrive(with_box((NEVER, (("file", "old"), ("drop",)))), HI), (["inbox"], []))
        self.check((), ["inbox"], [])
        self.check((("stop",),), ["inbox"], [])
        self.check((("drop",),), [], [])
        self.check((("mark", "a"), ("tag", "x")), ["inbox"], [])
        self.check((("forward", "ann"),), ["inbox"], [("ann", "ann", "hi", ())])
        self.check((("forward", "ann"), ("drop",)), [], [("ann", "ann", "hi", ())])

    def test_filed(self):
        self.check((("file", "old"),), ["old"], [])
        self.check((("file", "inbox"),), ["inbox"], [])
        self.check((("file", "old"), ("file", "new"), ("file", "old")), ["old", "new", "old"], [])
        self.check((("file", "old"), ("drop",)), ["old"], [])
        self.check((("file", "old"), ("stop",)), ["old"], [])
        self.check((("file", "inbox"), ("file", "inbox")), ["inbox", "inbox"], [])

    def test_copies_are_as_the_message_is_then(self):
        self.check(
            (("forward", "a"), ("tag", "x"), ("forward", "b"), ("mark", "m"), ("forward", "c"), ("tag", "yz")), ["inbox"],
            [("ann", "a", "hi", ()), ("ann", "b", "xhi", ()), ("ann", "c", "xhi", ("m",))])

    def test_to_itself(self):
        self.check((("forward", "box"), ("forward", "box")), ["inbox"], [HI, HI])

    def test_replies(self):
        self.check((("reply", "re "),), ["inbox"], [("box", "ann", "re hi", ("auto",))])
        self.check(
            (("tag", "+"), ("mark", "m"), ("reply", "re "), ("forward", "zed"), ("mark", "a"), ("reply", "-")), ["inbox"],
            [("box", "ann", "re +hi", ("auto", "m")), ("ann", "zed", "+hi", ("m",)), ("box", "ann", "-+hi", ("a", "auto", "m"))])
        self.check((("reply", "r"),), ["inbox"], [("box", "box", "rx", ("auto", "b"))], ("box", "box", "x", ("auto", "b")))
        self.check((("reply", "r"),), ["inbox"], [("box", "ann", "r", ("a", "auto", "b"))], ("ann", "box", "", ("a", "b")))

    def test_marks_are_added_once_and_ascend(self):
        self.check(
            (("mark", "b"), ("mark", "b"), ("mark", "a"), ("mark", "c"), ("forward", "zed")), ["inbox"],
            [("ann", "zed", "hi", ("a", "b", "c"))])
        self.check((("mark", "b"), ("forward", "z")), ["inbox"], [("ann", "z", "", ("a", "b"))], ("ann", "box", "", ("a", "b")))

    def test_tags_are_put_in_front_each_time(self):
        self.check((("tag", "a"), ("tag", "a"), ("forward", "z")), ["inbox"], [("ann", "z", "aahi", ())])

    def test_later_rules_see_the_message_as_it_is_then(self):
        house = with_box(
            (ALWAYS, (("tag", "x"), ("mark", "m"))),
            (("begins", "hi"), (("file", "wrong"),)),
            (("begins", "xhi"), (("file", "a"),)),
            (("marked", "m"), (("file", "b"),)),
            (("not", ("marked", "m")), (("file", "wrong"),)),
            (("is", "xhi"), (("tag", "y"),)),
            (("is", "xhi"), (("file", "wrong"),)),
            (("from", ("ann",)), (("file", "c"),)),
        )
        self.assertEqual(arrive(house, HI), (["a", "b", "c"], []))
        self.assertEqual(firing(house, HI), (0, 2, 3, 5, 7))

    def test_drop_and_stop_end_the_rules(self):
        for end in (("drop",), ("stop",)):
            house = with_box((ALWAYS, (("file", "a"), end)), (ALWAYS, (("file", "b"), ("forward", "zed"))))
            self.assertEqual(arrive(house, HI), (["a"], []))
            self.assertEqual(firing(house, HI), (0,))
            house = with_box((NEVER, (end,)), (ALWAYS, (("file", "b"),)), (ALWAYS, (end,)), (ALWAYS, (("file", "c"),)))
            self.assertEqual(arrive(house, HI), (["b"], []))
            self.assertEqual(firing(house, HI), (1, 2))

    def test_rules_without_actions_go_on(self):
        house = with_box((ALWAYS, ()), (ALWAYS, (("file", "a"),)), (ALWAYS, ()))
        self.assertEqual(arrive(house, HI), (["a"], []))
        self.assertEqual(firing(house, HI), (0, 1, 2))

    def test_long_subjects_and_many_marks(self):
        marks = tuple("abcdefgh")
        message = ("zed", "box", "x" * 1000, marks)
        self.check(
            (("tag", "12345678"), ("mark", "i"), ("reply", "~")), ["inbox"],
            [("box", "zed", "~12345678" + "x" * 1000, ("a", "auto", *"bcdefghi"))], message)


class ListTest(unittest.TestCase):
    def test_copies_in_sequence(self):
        message = ("ann", "list", "x", ("m",))
        self.assertEqual(arrive(with_list(()), message), ([], []))
        self.assertEqual(
            arrive(with_list(("zed", "list", "ann")), message),
            ([], [("ann", name, "x", ("m",)) for name in ("zed", "list", "ann")]))

    def test_tag(self):
        house = with_list(("a", "b"), tag="[t]")
        for subject, tagged in (
            ("", "[t]"), ("x", "[t]x"), ("[t]", "[t]"), ("re: [t]x", "re: [t]x"), ("[T]", "[t][T]"), ("[t", "[t][t"),
        ):
            with self.subTest(subject):
                self.assertEqual(
                    arrive(house, ("ann", "list", subject, ())), ([], [("ann", "a", tagged, ()), ("ann", "b", tagged, ())]))

    def test_mark(self):
        house = with_list(("a",), mark="m")
        for marks, marked in (((), ("m",)), (("m",), ("m",)), (("a", "z"), ("a", "m", "z"))):
            with self.subTest(marks):
                self.assertEqual(arrive(house, ("ann", "list", "", marks)), ([], [("ann", "a", "", marked)]))

    def test_closed(self):
        house = with_list(("ann", "zed"), tag="t", mark="m", closed=True)
        copies = [("zed", "ann", "t", ("m",)), ("zed", "zed", "t", ("m",))]
        self.assertEqual(arrive(house, ("zed", "list", "", ())), ([], copies))
        for sender in ("bob", "list", "an"):
            self.assertEqual(arrive(house, (sender, "list", "", ())), ([], []))
        self.assertEqual(arrive(with_list((), closed=True), ("ann", "list", "", ())), ([], []))
        house.set_list("list", ("ann", "zed"))
        self.assertEqual(len(arrive(house, ("bob", "list", "", ()))[1]), 2)


class AliasTest(unittest.TestCase):
    def test_a_copy(self):
        house = House()
        house.add_alias("post", "box")
        house.add_alias("self", "self")
        self.assertEqual(arrive(house, ("a", "post", "x", ("m",))), ([], [("a", "box", "x", ("m",))]))
        self.assertEqual(arrive(house, ("a", "self", "", ())), ([], [("a", "self", "", ())]))


class RefusedTest(unittest.TestCase):
    def refuse(self, error, attribute, value, call, house, message):
        before = house.copied()
        with self.assertRaises(error) as caught:
            call(house, message)
        self.assertIs(getattr(caught.exception, attribute), value)
        self.assertEqual(house, before)

    def test_no_messages(self):
        house = with_box()
        for value in (
            *OTHER_VALUES, *OTHER_STRINGS, ["ann", "box", "hi", ()], ("ann", "box", "hi", []), ("ann", "box", "hi", ("b", "a")),
            ("ann", "box", "hi", ("a", "a")), ("Ann", "box", "hi", ()), ("ann", "box", "100%", ()), ("ann", "box", "hi"),
            ("ann", "box", 1, ()), ("ann", ["box"], "hi", ()), ("ann", "box", "hi", (), ()), ("ann", None, "hi", ()),
            ("", "box", "", ()), ("ann", "box", "hi\n", ()), ("ann", "box", "", None), (True, "box", "", ()),
        ):
            with self.subTest(value):
                self.refuse(BadMessage, "value", value, arrive, house, value)
                self.refuse(BadMessage, "value", value, firing, house, value)

    def test_outside(self):
        house = with_box()
        house.add_list("list", ("box",))
        house.add_alias("post", "box")
        for address in ("ann", "zed", "bo", "boxx"):
            message = ("ann", address, "hi", ())
            self.refuse(BadMessage, "value", message, arrive, house, message)
            self.refuse(UnknownName, "name", message[1], firing, house, message)
        for address in ("list", "post"):
            message = ("ann", address, "hi", ())
            self.refuse(UnknownName, "name", message[1], firing, house, message)
        house.remove("box")
        self.refuse(BadMessage, "value", HI, arrive, house, HI)
        self.refuse(UnknownName, "name", HI[1], firing, house, HI)


class FiringTest(unittest.TestCase):
    def test_none(self):
        self.assertEqual(firing(with_box(), HI), ())
        self.assertEqual(firing(with_box((NEVER, ())), HI), ())

    def test_places(self):
        house = with_box(
            (("contains", "a"), ()), (("contains", "b"), (("stop",),)), (("contains", "c"), ()), (("is", ""), ()))
        for subject, places in (("", (3,)), ("a", (0,)), ("b", (1,)), ("cab", (0, 1)), ("ca", (0, 2)), ("x", ())):
            with self.subTest(subject):
                self.assertEqual(firing(house=house, message=("ann", "box", subject, ())), places)
                self.assertIsInstance(firing(house, ("ann", "box", subject, ())), tuple)


class AfterHopsTest(unittest.TestCase):
    def test_no_hops(self):
        self.assertEqual(after_hops(with_box(), HI, 0), [HI])
        outside = ("ann", "zed", "", ())
        self.assertEqual(after_hops(House(), outside, 0), [outside])
        self.assertEqual(after_hops(House(), outside, 1), [])

    def test_what_leaves_is_there_for_one_hop(self):
        house = with_box((ALWAYS, (("forward", "zed"),)))
        house.add_list("list", ("out", "box"))
        message = ("ann", "list", "x", ())
        for hops, addresses in enumerate([["list"], ["out", "box"], ["zed"], [], [], []]):
            with self.subTest(hops):
                self.assertEqual([one[1] for one in after_hops(house=house, message=message, hops=hops)], addresses)

    def test_in_sequence(self):
        house = House()
        house.add_list("l", ("m", "l", "n"), tag="t")
        house.add_alias("m", "n")
        house.add_mailbox("n", [(ALWAYS, (("forward", "m"), ("reply", "r")))])
        message = ("x", "l", "", ())
        self.assertEqual(after_hops(house, message, 2), [
            ("x", "n", "t", ()), ("x", "m", "t", ()), ("x", "l", "t", ()), ("x", "n", "t", ()), ("x", "m", "t", ()),
            ("n", "x", "rt", ("auto",))])

    def test_rings_without_an_end(self):
        house = House()
        names = list("abcdefg")
        for name, target in zip(names, names[1:] + names[:1]):
            house.add_alias(name, target)
        house.add_list("two", ("a", "b"))
        for hops in (0, 1, 2, 6, 7, 8, 50, 700, 10 ** 30, 10 ** 59 + 3):
            with self.subTest(hops):
                self.assertEqual(after_hops(house, ("x", "a", "s", ("m",)), hops), [("x", names[hops % 7], "s", ("m",))])
                if hops > 0:
                    self.assertEqual(
                        [one[1] for one in after_hops(house, ("x", "two", "s", ()), hops)],
                        [names[(hops - 1) % 7], names[hops % 7]])

    def test_rings_that_grow(self):
        house = with_box((ALWAYS, (("tag", "a"), ("forward", "box"))))
        for hops in (1, 10, 1000):
            self.assertEqual(after_hops(house, HI, hops), [("ann", "box", "a" * hops + "hi", ())])

    def test_a_change_far_on(self):
        house = with_box((("contains", "a" * 8), (("drop",),)), (ALWAYS, (("tag", "a"), ("forward", "box"))))
        self.assertEqual(after_hops(house, ("ann", "box", "", ()), 8), [("ann", "box", "a" * 8, ())])
        self.assertEqual(after_hops(house, ("ann", "box", "", ()), 9), [])
        self.assertEqual(after_hops(house, ("ann", "box", "", ()), 10 ** 50), [])

    def test_drawn(self):
        for draw, house in cases(1, 500):
            message = draw_message(draw, house)
            for hops, way in enumerate(Course(house, message, 8, 100).ways):
                self.assertEqual(after_hops(house, message, hops), way)


class NewThingsTest(unittest.TestCase):
    def test_lists_are_new(self):
        house = with_list(("a", "b"))
        house.add_mailbox("box", [(ALWAYS, (("file", "x"), ("forward", "a")))])
        for message in (("ann", "list", "", ()), ("ann", "box", "", ())):
            filed, sent = arrive(house=house, message=message)
            expected = (list(filed), list(sent))
            filed.append("more")
            sent.clear()
            self.assertEqual(arrive(house, message), expected)
            for hops in (0, 1):
                way = after_hops(house, message, hops)
                before = list(way)
                way.append("more")
                self.assertEqual(after_hops(house, message, hops), before)

    def test_a_changed_house_is_asked_anew(self):
        house = with_box()
        self.assertEqual(arrive(house, HI), (["inbox"], []))
        house.set_rules("box", [(ALWAYS, (("drop",),))])
        self.assertEqual(arrive(house, HI), ([], []))
        house.remove("box")
        house.add_alias("box", "out")
        self.assertEqual(arrive(house, HI), ([], [("ann", "out", "hi", ())]))


if __name__ == "__main__":
    unittest.main()
