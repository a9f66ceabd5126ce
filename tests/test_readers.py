"""Point [18]: readers.py."""

import unittest

from mailrings.arrivals import arrive
from mailrings.conditions import holds, marks_of, names_of
from mailrings.houses import House
from mailrings.kinds import known_names
from mailrings.names import message_key
from mailrings.numbers import filings, leavings
from mailrings.readers import first_leak, is_way, readers, way_to
from tests.samples import (
    ALWAYS, NEVER, cases, draw_busy_house, draw_condition, draw_house, draw_message, short_messages)
from tests.values import OTHER_STRINGS, OTHER_VALUES


def example():
    """Return the house of the document's example."""
    house = House()
    house.add_mailbox("box", [(("ends", "s"), (("forward", "zed"),))])
    return house


def replying():
    """Return a house with a list, and a mailbox that replies to what is no reply."""
    house = House()
    house.add_list("list", ("box", "far"))
    house.add_mailbox("box", [(("not", ("marked", "auto")), (("reply", "re"), ("drop",)))])
    return house


def names_of_readers(house, message):
    """Return the set of the names that read a message."""
    return {mailbox for mailbox, _ in filings(house, message)} | set(leavings(house, message))


class ReadersTest(unittest.TestCase):
    def check(self, house, addresses, condition, expected):
        found = readers(house, addresses, condition)
        self.assertEqual(found, expected)
        self.assertEqual(readers(house=house, addresses=tuple(addresses), condition=condition), expected)
        for name, message in found.items():
            self.assertEqual(first_leak(house, addresses, condition, name), message)
            self.assertTrue(is_way(house, way_to(house, message, name), name))

    def test_the_example(self):
        self.check(example(), ["box"], ("all", ()), {"box": ("a", "box", "", ()), "zed": ("a", "box", "s", ())})

    def test_conditions(self):
        house = example()
        self.check(house, ["box"], NEVER, {})
        self.check(house, ["box"], ("begins", "t"), {"box": ("a", "box", "t", ()), "zed": ("a", "box", "ts", ())})
        self.check(house, ["box"], ("marked", "m"), {"box": ("a", "box", "", ("m",)), "zed": ("a", "box", "s", ("m",))})
        self.check(house, ["box"], ("is", "st"), {"box": ("a", "box", "st", ())})
        self.check(house, ["box"], ("ends", "es"), {"box": ("a", "box", "es", ()), "zed": ("a", "box", "es", ())})
        self.check(house, ["box"], ("from", ("a", "eve")), {"box": ("a", "box", "", ()), "zed": ("a", "box", "s", ())})
        self.check(house, ["box"], ["not", ["from", ["a", "aa"]]], {"box": ("aaa", "box", "", ()), "zed": ("aaa", "box", "s", ())})

    def test_addresses(self):
        house = example()
        self.check(house, [], ALWAYS, {})
        self.check(house, ["out"], ALWAYS, {"out": ("a", "out", "", ())})
        self.check(house, ["zed"], ALWAYS, {"zed": ("a", "zed", "", ())})
        self.check(house, ["zed", "box", "zed"], ALWAYS, {"box": ("a", "box", "", ()), "zed": ("a", "zed", "", ())})
        self.check(house, ["zed", "box"], ("contains", "s"), {"box": ("a", "box", "s", ()), "zed": ("a", "box", "s", ())})
        self.check(house, ["out", "far"], ("is", "x"), {"out": ("a", "out", "x", ()), "far": ("a", "far", "x", ())})
        self.check(House(), ["b", "a"], ("marked", "m"), {"a": ("a", "a", "", ("m",)), "b": ("a", "b", "", ("m",))})
        self.check(House(), [], ALWAYS, {})

    def test_strange_senders_to_whom_replies_go(self):
        house = replying()
        box = ("a", "box", "", ("auto",))
        senders = {name: (name, "box", "", ()) for name in ("a", "far", "list")}
        # Where the list gets a reply, it sends it to the box, which files it, as it is one.
        self.check(house, ["box"], ALWAYS, {
            "a": ("a", "box", "", ()), "far": ("far", "box", "", ()), "box": ("box", "box", "", ())})
        self.assertEqual(readers(house, ["box"], ALWAYS)["far"], senders["far"])
        self.check(house, ["box"], ("from", ("a",)), {"a": ("a", "box", "", ()), "box": box})
        self.check(house, ["box"], ("from", ("bob",)), {"bob": ("bob", "box", "", ()), "box": ("bob", "box", "", ("auto",))})
        self.check(house, ["box"], ("not", ("from", ("a", "bob"))), {
            "aa": ("aa", "box", "", ()), "far": ("far", "box", "", ()), "box": ("box", "box", "", ())})
        self.check(house, ["box", "a"], ALWAYS, {
            "a": ("a", "a", "", ()), "aa": ("aa", "box", "", ()), "far": ("far", "box", "", ()), "box": ("box", "box", "", ())})
        self.check(house, ["list"], ("from", ("b", "c")), {
            "b": ("b", "list", "", ()), "c": ("c", "list", "", ()), "far": ("b", "list", "", ()),
            "box": ("b", "list", "", ("auto",))})

    def test_lists_read_nothing(self):
        house = House()
        house.add_list("list", ("box", "list"), closed=True)
        house.add_alias("post", "list")
        house.add_mailbox("box", [(("is", "x"), (("drop",),))])
        self.check(house, ["list", "post"], ALWAYS, {"box": ("box", "list", "", ())})
        self.check(house, ["list", "post"], ("is", "x"), {})
        self.check(house, ["list", "post"], ("not", ("from", ("box", "list"))), {})

    def test_drawn_houses(self):
        names = 0
        for draw, house in cases(71, 150):
            addresses = draw.sample([*house.addresses, "out", "b", "none"], 2)
            condition = draw_condition(draw) if draw.random() < 0.6 else ALWAYS
            found = readers(house, addresses, condition)
            known = {*known_names(house), *addresses, *names_of(condition)}
            strange = min({"a", "aa", "aaa", "aaaa"} - known)
            self.assertLessEqual(set(found), known | {strange})
            for name, message in found.items():
                names += 1
                self.assertIn(message[1], addresses)
                self.assertTrue(holds(condition, message))
                self.assertIn(name, names_of_readers(house, message))
            messages = short_messages(house, addresses, names_of(condition), marks_of(condition), 2)
            for message in draw.sample(messages, min(len(messages), 400)):
                if holds(condition, message):
                    for name in names_of_readers(house, message):
                        told = name if name in known else strange
                        self.assertLessEqual(message_key(found[told]), message_key(message), (name, message))
        self.assertGreater(names, 300)


class FirstLeakTest(unittest.TestCase):
    def test_names(self):
        house = replying()
        for addresses, condition, name, message in (
            (["box"], ALWAYS, "box", ("box", "box", "", ())),
            (["box"], ALWAYS, "a", ("a", "box", "", ())),
            (["box"], ALWAYS, "bob", ("bob", "box", "", ())),
            (["box"], ALWAYS, "zzzzzzzzzzzz", ("zzzzzzzzzzzz", "box", "", ())),
            (["box"], ("not", ("from", ("bob",))), "bob", None),
            (["box"], ("from", ("ann", "bob")), "bob", ("bob", "box", "", ())),
            (["box"], ("is", "x"), "bob", ("bob", "box", "x", ())),
            (["box"], ("marked", "auto"), "bob", None),
            (["box"], ALWAYS, "list", None),
            (["list"], ALWAYS, "list", None),
            (["box", "list"], ALWAYS, "far", ("far", "box", "", ())),
            (["list"], ALWAYS, "far", ("a", "list", "", ())),
            (["box", "bob"], ALWAYS, "bob", ("a", "bob", "", ())),
            (("box", "bob"), ("marked", "m"), "bob", ("a", "bob", "", ("m",))),
            ([], ALWAYS, "box", None), (["box"], NEVER, "box", None),
        ):
            with self.subTest((addresses, condition, name)):
                self.assertEqual(first_leak(house, addresses, condition, name), message)
                self.assertEqual(first_leak(house=house, addresses=addresses, condition=condition, name=name), message)
        self.assertIsNone(first_leak(House(), ["a"], ALWAYS, "b"))
        self.assertEqual(first_leak(House(), ["a"], ALWAYS, "a"), ("a", "a", "", ()))

    def test_drawn_houses(self):
        some = 0
        for draw, house in cases(72, 300):
            addresses = draw.sample([*house.addresses, "out", "b"], 2)
            condition = draw_condition(draw) if draw.random() < 0.6 else ALWAYS
            name = draw.choice([*house.addresses, "out", "ann", "bob", "a", "b"])
            found = first_leak(house, addresses, condition, name)
            messages = short_messages(house, addresses, [*names_of(condition), name], marks_of(condition), 2)
            if found is not None:
                some += 1
                self.assertIn(name, names_of_readers(house, found))
                self.assertTrue(holds(condition, found) and found[1] in addresses)
                messages = [message for message in messages if message_key(message) < message_key(found)]
            for message in draw.sample(messages, min(len(messages), 300)):
                self.assertFalse(holds(condition, message) and name in names_of_readers(house, message))
        self.assertGreater(some, 40)


class WayTest(unittest.TestCase):
    def test_one_message_alone(self):
        house = example()
        message = ("ann", "box", "x", ())
        self.assertEqual(way_to(house, message, "box"), [message])
        self.assertEqual(way_to(house=house, message=list(message), name="box"), [message])
        self.assertTrue(is_way(house=house, value=[message], name="box"))
        message = ("ann", "out", "x", ())
        self.assertEqual(way_to(house, message, "out"), [message])
        self.assertEqual(way_to(House(), ["ann", "out", "x", ["m"]], "out"), [("ann", "out", "x", ("m",))])
        self.assertTrue(is_way(house, [message], "out"))

    def test_none(self):
        house = example()
        house.add_list("list", ("box",))
        house.add_mailbox("end", [(ALWAYS, (("drop",),))])
        for message, name in (
            (("ann", "box", "x", ()), "zed"), (("ann", "box", "s", ()), "none"), (("ann", "box", "s", ()), "ann"),
            (("ann", "out", "s", ()), "box"), (("ann", "out", "s", ()), "ann"), (("ann", "list", "s", ()), "list"),
            (("ann", "end", "s", ()), "end"), (("ann", "box", "s", ()), "list"), (("ann", "box", "s", ()), "a"),
        ):
            with self.subTest((message, name)):
                self.assertIsNone(way_to(house, message, name))
                self.assertFalse(is_way(house, [message], name))

    def test_replies_to_a_strange_sender(self):
        house = replying()
        for sender in ("a", "bob"):
            message = (sender, "list", "x", ())
            way = [message, (sender, "box", "x", ()), ("box", sender, "rex", ("auto",))]
            self.assertEqual(way_to(house, message, sender), way)
            self.assertTrue(is_way(house, way, sender))
        self.assertIsNone(way_to(house, ("bob", "list", "x", ()), "a"))
        self.assertIsNone(way_to(house, ("a", "list", "x", ()), "bob"))
        message = ("far", "list", "x", ())
        self.assertEqual(way_to(house, message, "far"), [message, ("far", "far", "x", ())])

    def test_a_shortest_way(self):
        house = House()
        house.add_list("list", ("one", "box", "two"))
        house.add_alias("one", "two")
        house.add_alias("two", "box")
        house.add_mailbox("box", [(("not", ("begins", "x")), (("tag", "x"), ("forward", "box"), ("forward", "end"), ("drop",)))])
        house.add_list("end", ("far", "near"))
        message = ("ann", "list", "", ())
        self.assertEqual(way_to(house, message, "far"), [
            message, ("ann", "box", "", ()), ("ann", "end", "x", ()), ("ann", "far", "x", ())])
        self.assertEqual(way_to(house, message, "box"), [message, ("ann", "box", "", ()), ("ann", "box", "x", ())])

    def test_more_than_eight_marks_on_a_way(self):
        house = House()
        marks = tuple("klmnop")
        house.add_mailbox("box", [(ALWAYS, tuple(("mark", mark) for mark in marks)), (ALWAYS, (("forward", "out"),))])
        message = ("ann", "box", "", tuple("abcdefgh"))
        way = way_to(house, message, "out")
        self.assertEqual(way, [message, ("ann", "out", "", tuple("abcdefghklmnop"))])
        self.assertTrue(is_way(house, way, "out"))
        self.assertTrue(is_way(house, way[1:], "out"))

    def test_a_ring_on_the_way(self):
        house = House()
        house.add_mailbox("box", [
            (("begins", "xxx"), (("forward", "out"), ("drop",))), (ALWAYS, (("tag", "x"), ("forward", "box"), ("drop",)))])
        message = ("ann", "box", "y", ())
        way = way_to(house, message, "out")
        self.assertEqual([one[2] for one in way], ["y", "xy", "xxy", "xxxy", "xxxy"])
        self.assertTrue(is_way(house, way, "out"))
        self.assertIsNone(way_to(house, message, "box"))
        house.set_rules("box", [(ALWAYS, (("forward", "box"), ("drop",)))])
        self.assertIsNone(way_to(house, message, "box"))
        self.assertIsNone(way_to(house, message, "out"))

    def test_what_is_no_way(self):
        house = replying()
        message = ("bob", "list", "x", ())
        way = way_to(house, message, "bob")
        self.assertTrue(is_way(house, way, "bob"))
        self.assertTrue(is_way(house, way[1:], "bob"))
        self.assertTrue(is_way(house, way[2:], "bob"))
        self.assertTrue(is_way(house, [("eve", "bob", "", ())], "bob"))
        for value in (
            *OTHER_VALUES, *OTHER_STRINGS, [], tuple(way), way[:1], way[:2], way[::-1], [way], [*way, way[-1]], way + way,
            [way[0], way[2]], [*way[:2], ("box", "bob", "x", ("auto",))], [*way[:2], ("box", "bob", "rex", ())],
            [*way[:2], ("box", "bob", "rex", ["auto"])], [*way[:2], list(way[2])], [list(one) for one in way],
            [*way[:2], ("list", "bob", "rex", ("auto",))], [*way[:2], ("box", "far", "rex", ("auto",))],
            [*way[:2], None], [None, *way], [("bob", "list", "y", ()), *way[1:]], [("bob", "list", "x", ("auto",)), *way[1:]],
            [("bob", "list", "x", ("b", "a")), *way[1:]], {0: way[0]}, [("bob", "bob", "", ()), ("bob", "bob", "", ())],
            house, message,
        ):
            with self.subTest(value):
                self.assertIs(is_way(house, value, "bob"), False)
        for name in ("box", "list", "far", "a", "", "Bob", "none"):
            self.assertIs(is_way(house, way, name), False)
        self.assertIs(is_way(House(), way, "bob"), False)
        self.assertIs(is_way(House(), way[:1], "list"), True)

    def test_long_subjects_on_a_way(self):
        house = example()
        for many in (1000, 5000):
            way = way_to(house, ("ann", "box", "s" * many, ()), "zed")
            self.assertTrue(is_way(house, way, "zed"))

    def test_drawn_houses(self):
        some = none = 0
        for drawn in (draw_house, draw_busy_house):
            for draw, house in cases(73, 250, drawn):
                message = draw_message(draw, house)
                reading = names_of_readers(house, message)
                for name in sorted({*known_names(house), *reading, "a", "bob", message[0]}):
                    way = way_to(house, message, name)
                    if name not in reading:
                        none += 1
                        self.assertIsNone(way)
                    else:
                        some += 1
                        self.assertIsInstance(way, list)
                        self.assertEqual(way[0], message)
                        self.assertIs(is_way(house, way, name), True)
                        self.assertEqual(len(way), self.shortest(house, message, name, len(way)))
                        self.check_other_values(draw, house, way, name)
        self.assertGreater(min(some, none), 400)

    def shortest(self, house, message, name, most):
        """Return the number of messages of a shortest way, found hop by hop."""
        now = {message}
        for many in range(1, most + 1):
            following = set()
            for one in now:
                if one[1] not in house.addresses:
                    filed, sent = [], []
                    if one[1] == name:
                        return many
                else:
                    filed, sent = arrive(house, one)
                if filed and one[1] == name:
                    return many
                following.update(sent)
            now = following
        return None

    def check_other_values(self, draw, house, way, name):
        place = draw.randrange(len(way))
        sender, address, subject, marks = way[place]
        for one in (("q", address, subject, marks), (sender, "q", subject, marks), (sender, address, subject + "q", marks)):
            value = [*way[:place], one, *way[place + 1:]]
            right = self.is_way_told(house, value, name)
            self.assertIs(is_way(house, value, name), right)

    def is_way_told(self, house, value, name):
        for before, one in zip(value, value[1:]):
            if before[1] not in house.addresses or one not in arrive(house, before)[1]:
                return False
        last = value[-1]
        if last[1] not in house.addresses:
            return last[1] == name
        return last[1] == name and arrive(house, last)[0] != []


class NewThingsTest(unittest.TestCase):
    def test_a_changed_house_is_asked_anew(self):
        house = example()
        message = ("ann", "box", "s", ())
        self.assertEqual(sorted(readers(house, ["box"], ALWAYS)), ["box", "zed"])
        house.add_alias("zed", "out")
        self.assertEqual(sorted(readers(house, ["box"], ALWAYS)), ["box", "out"])
        self.assertEqual(len(way_to(house, message, "out")), 3)
        self.assertIsNone(first_leak(house, ["box"], ALWAYS, "zed"))
        house.remove("box")
        self.assertEqual(readers(house, ["box"], ALWAYS), {"box": ("a", "box", "", ())})
        self.assertIsNone(way_to(house, message, "out"))

    def test_what_is_returned_is_new_and_what_is_passed_in_stays(self):
        house, addresses, condition = example(), ["zed", "box"], ["any", [["ends", "s"], ["is", ""]]]
        found = readers(house, addresses, condition)
        before = dict(found)
        found.clear()
        self.assertEqual(readers(house, addresses, condition), before)
        way = way_to(house, ("ann", "box", "s", ()), "zed")
        way.clear()
        self.assertEqual(len(way_to(house, ("ann", "box", "s", ()), "zed")), 2)
        self.assertEqual((addresses, condition), (["zed", "box"], ["any", [["ends", "s"], ["is", ""]]]))
        self.assertEqual(house, example())


if __name__ == "__main__":
    unittest.main()
