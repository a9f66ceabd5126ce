"""Point [15] and its part of [11] and [12]: wishes.py."""

import unittest

from mailrings.conditions import holds, marks_of, names_of
from mailrings.errors import BadWish, MailError
from mailrings.houses import House
from mailrings.names import message_key
from mailrings.numbers import measure
from mailrings.wishes import broken, broken_first, is_wish, wish_holds
from tests.samples import ALWAYS, NEVER, cases, draw_condition, draw_message, short_messages
from tests.values import OTHER_STRINGS, OTHER_VALUES

ALL = ("all",)
LEFT = ("left",)
GOOD = (("box",), ALWAYS, ALL, 0, None)


def example():
    """Return the house of the document's example."""
    house = House()
    house.add_mailbox("box", [(("ends", "ad"), (("drop",),))])
    return house


def replying():
    """Return a house that replies to what is no reply."""
    house = House()
    house.add_mailbox("box", [(("not", ("marked", "auto")), (("reply", "re"), ("reply", "aw")))])
    return house


def ringing():
    """Return a house with a list that sends to itself, to a mailbox and out."""
    house = House()
    house.add_list("ring", ("ring", "box", "out"))
    house.add_mailbox("box")
    return house


def wish(addresses, what, low, high, condition=ALWAYS):
    """Return a wish about addresses, told as words."""
    return (tuple(addresses.split()), condition, what, low, high)


class IsWishTest(unittest.TestCase):
    def test_wishes(self):
        for value in (
            GOOD, (("a", "b", "box"), NEVER, LEFT, 0, 0), (("a",), ("from", ("a",)), ("left", "a"), 5, 3),
            (("a",), ("is", ""), ("filed", "a"), 10 ** 59, 10 ** 59), (("a",), ("not", ALWAYS), ("filed", "a", "b"), 1, None),
            (tuple("a" * many for many in range(1, 13)), ALWAYS, ALL, 0, None),
        ):
            with self.subTest(value):
                self.assertIs(is_wish(value), True)
                self.assertIs(is_wish(value=value), True)

    def test_other_values(self):
        names, condition, what, low, high = GOOD
        for value in (
            *OTHER_VALUES, *OTHER_STRINGS, GOOD[:4], GOOD + (0,), list(GOOD), dict(enumerate(GOOD)), (GOOD,),
            ("box", condition, what, low, high), ((), condition, what, low, high), (["box"], condition, what, low, high),
            (("b", "a"), condition, what, low, high), (("a", "a"), condition, what, low, high),
            (("Box",), condition, what, low, high), (("a", None), condition, what, low, high),
            (None, condition, what, low, high), ({"box": 1}, condition, what, low, high),
            (names, ["all", ()], what, low, high), (names, ("all", []), what, low, high), (names, ("all",), what, low, high),
            (names, None, what, low, high), (names, ("marked", "A"), what, low, high), (names, ALL, what, low, high),
            (names, ("not", ("not", ("not", ("not", ALWAYS)))), what, low, high),
            (names, condition, ["all"], low, high), (names, condition, "all", low, high), (names, condition, (), low, high),
            (names, condition, ("filed",), low, high), (names, condition, ("filed", ["a"]), low, high),
            (names, condition, ("left", "a", "b"), low, high), (names, condition, None, low, high),
            (names, condition, ALWAYS, low, high),
            (names, condition, what, -1, high), (names, condition, what, True, high), (names, condition, what, False, high),
            (names, condition, what, None, high), (names, condition, what, "0", high), (names, condition, what, 1.0, high),
            (names, condition, what, (0,), high), (names, condition, what, [], high),
            (names, condition, what, low, -1), (names, condition, what, low, True), (names, condition, what, low, False),
            (names, condition, what, low, "1"), (names, condition, what, low, ()), (names, condition, what, low, {}),
            (names, condition, what, low, 1.5),
        ):
            with self.subTest(value):
                self.assertIs(is_wish(value), False)
                for call in (
                    lambda: broken(example(), value), lambda: wish_holds(example(), value, ("a", "box", "", ())),
                    lambda: wish_holds(example(), value, ("a", "out", "", ())), lambda: broken_first(example(), [value]),
                    lambda: broken_first(example(), (GOOD, value, 0)), lambda: broken(House(), value),
                ):
                    with self.assertRaises(BadWish) as caught:
                        call()
                    self.assertIs(caught.exception.value, value)
                    self.assertIsInstance(caught.exception, MailError)


class BrokenTest(unittest.TestCase):
    def test_the_example(self):
        self.assertEqual(broken(example(), (("box",), ("all", ()), ("filed", "box"), 1, 1)), ("a", "box", "ad", ()))
        self.assertEqual(broken(house=example(), wish=wish("box", ("filed", "box"), 1, 1)), ("a", "box", "ad", ()))

    def check(self, house, *rows):
        for told, message in rows:
            with self.subTest(told):
                self.assertEqual(broken(house, told), message)
                self.assertEqual(broken_first(house, [told]), None if message is None else (0, message))
                if message is not None:
                    self.assertIs(wish_holds(house, told, message), False)

    def test_bounds(self):
        self.check(
            example(),
            (wish("box", ALL, 0, None), None),
            (wish("box", ALL, 0, 0), ("a", "box", "", ())),
            (wish("box", ALL, 0, 1), None),
            (wish("box", ALL, 1, None), ("a", "box", "ad", ())),
            (wish("box", ALL, 1, 0), ("a", "box", "", ())),
            (wish("box", ALL, 3, 2), ("a", "box", "", ())),
            (wish("box", ALL, 2, None), ("a", "box", "", ())),
            (wish("box", ALL, 10 ** 59, None), ("a", "box", "", ())),
            (wish("box", ALL, 0, 10 ** 59), None),
        )

    def test_endless_numbers(self):
        self.check(
            ringing(),
            (wish("ring", ALL, 0, None), None),
            (wish("ring", ALL, 10 ** 59, None), None),
            (wish("ring", ALL, 0, 10 ** 59), ("a", "ring", "", ())),
            (wish("ring", LEFT, 1, None), None),
            (wish("box ring", ("left", "out"), 1, None), ("a", "box", "", ())),
            (wish("ring", ("left", "out"), 0, 5), ("a", "ring", "", ())),
            (wish("ring", ("filed", "box", "inbox"), 0, 0), ("a", "ring", "", ())),
            (wish("ring", ("filed", "box", "old"), 0, 0), None),
            (wish("box", ("filed", "box"), 1, 1), None),
        )

    def test_outside(self):
        self.check(
            example(),
            (wish("out", ALL, 1, 1), None),
            (wish("out", LEFT, 1, 1), None),
            (wish("out", ("left", "out"), 1, 1), None),
            (wish("out", ("left", "box"), 0, 0), None),
            (wish("out", ("filed", "out"), 0, 0), None),
            (wish("out", ALL, 0, 0), ("a", "out", "", ())),
            (wish("out", LEFT, 2, None), ("a", "out", "", ())),
            (wish("out", ("left", "out"), 0, 0), ("a", "out", "", ())),
            (wish("out zed", ("left", "zed"), 1, 1), ("a", "out", "", ())),
            (wish("out zed", ("left", "out"), 1, 1), ("a", "zed", "", ())),
            (wish("box out", ("left", "out"), 1, 1), ("a", "box", "", ())),
            (wish("out zed", ("left", "zed"), 1, 1, ("all", (("marked", "m"), ("from", ("b", "c")), ("ends", "x")))),
             ("b", "out", "x", ("m",))),
        )
        self.check(
            House(),
            (wish("a", ALL, 1, 1), None),
            (wish("a", ALL, 0, 0), ("a", "a", "", ())),
            (wish("a", ("left", "b"), 1, None, ("from", ("b",))), ("b", "a", "", ())),
            (wish("a", ("filed", "a"), 1, None, ("is", "x y")), ("a", "a", "x y", ())),
        )

    def test_names_and_folders_that_the_house_does_not_have(self):
        self.check(
            example(),
            (wish("box", ("filed", "none"), 0, 0), None),
            (wish("box", ("filed", "none", "inbox"), 0, 0), None),
            (wish("box", ("filed", "box", "none"), 0, 0), None),
            (wish("box", ("left", "none"), 0, 0), None),
            (wish("box", ("filed", "box", "none"), 1, None), ("a", "box", "", ())),
            (wish("box", ("left", "box"), 1, None), ("a", "box", "", ())),
        )

    def test_conditions(self):
        self.check(
            example(),
            (wish("box", ALL, 5, 5, NEVER), None),
            (wish("box", ALL, 5, 5, ("not", ALWAYS)), None),
            (wish("box", ALL, 1, None, ("not", ("ends", "ad"))), None),
            (wish("box", ALL, 1, None, ("is", "ad")), ("a", "box", "ad", ())),
            (wish("box", ALL, 1, None, ("is", "dad")), ("a", "box", "dad", ())),
            (wish("box", ALL, 1, None, ("is", "ada")), None),
            (wish("box", ALL, 1, None, ("begins", "b")), ("a", "box", "bad", ())),
            (wish("box", ALL, 1, None, ("begins", "d")), ("a", "box", "dad", ())),
            (wish("box", ALL, 1, None, ("ends", "d")), ("a", "box", "ad", ())),
            (wish("box", ALL, 1, None, ("ends", "ead")), ("a", "box", "ead", ())),
            (wish("box", ALL, 1, None, ("ends", "da")), None),
            (wish("box", ALL, 1, None, ("contains", "d d")), ("a", "box", "d dad", ())),
            (wish("box", ALL, 1, None, ("marked", "m")), ("a", "box", "ad", ("m",))),
            (wish("box", ALL, 1, None, ("all", (("marked", "m"), ("marked", "a")))), ("a", "box", "ad", ("a", "m"))),
            (wish("box", ALL, 1, None, ("any", (("marked", "m"), ("marked", "b")))), ("a", "box", "ad", ("b",))),
            (wish("box", ALL, 1, None, ("from", ("bob", "eve"))), ("bob", "box", "ad", ())),
            (wish("box", ALL, 1, None, ("not", ("from", ("a", "aa", "aaa")))), ("aaaa", "box", "ad", ())),
            (wish("box", ALL, 1, None, ("not", ("from", ("a",)))), ("aa", "box", "ad", ())),
            (wish("box", ALL, 1, None, ("all", (("from", ("b", "c")), ("not", ("from", ("b",)))))), ("c", "box", "ad", ())),
        )

    def test_marks_of_rules_and_of_conditions(self):
        house = House()
        house.add_mailbox("box", [(("marked", "m"), (("drop",),))])
        self.check(
            house,
            (wish("box", ALL, 1, None), ("a", "box", "", ("m",))),
            (wish("box", ALL, 1, None, ("marked", "b")), ("a", "box", "", ("b", "m"))),
            (wish("box", ALL, 0, 0, ("marked", "b")), ("a", "box", "", ("b",))),
            (wish("box", ALL, 0, 0, ("any", (("all", (("marked", "a"), ("marked", "b"))), ("marked", "n"), ("marked", "m")))),
             ("a", "box", "", ("n",))),
            (wish("box", ALL, 1, None, ("any", (("all", (("marked", "a"), ("marked", "b"))), ("marked", "n")))),
             ("a", "box", "", ("m", "n"))),
            (wish("box", ALL, 1, None, ("not", ("marked", "m"))), None),
            # Fewer marks come first, also where there are senders and marks with which the condition never holds.
            (wish("box", ALL, 0, 0, ("all", (
                ("not", ("from", ("box",))), ("not", ("marked", "m")),
                ("any", (("all", (("marked", "a"), ("marked", "b"))), ("marked", "n"), ("all", (("marked", "n"), ("marked", "o")))))))),
             ("a", "box", "", ("n",))),
        )

    def test_many_marks_and_names_that_no_rule_asks(self):
        house = example()
        marks = tuple(("marked", mark) for mark in "abcdefgh")
        names = tuple(letter + other for letter in "bcdefghijk" for other in "abcdefghij")
        self.check(
            house,
            (wish("box", ALL, 1, None, ("all", marks)), ("a", "box", "ad", tuple("abcdefgh"))),
            (wish("box", ALL, 1, None, ("all", (*marks[2:], ("from", names)))), ("ba", "box", "ad", tuple("cdefgh"))),
            (wish("box", ALL, 0, 1, ("any", marks)), None),
        )

    def test_strange_senders(self):
        self.check(
            replying(),
            (wish("box", LEFT, 0, 0), ("a", "box", "", ())),
            (wish("box", LEFT, 2, 2), ("box", "box", "", ())),
            (wish("box", LEFT, 2, 2, ("not", ("from", ("box",)))), ("a", "box", "", ("auto",))),
            (wish("box", ("left", "bob"), 0, 0), ("bob", "box", "", ())),
            (wish("box", ("left", "bob"), 0, 1, ("from", ("ann", "bob"))), ("bob", "box", "", ())),
            (wish("box", ("left", "bob"), 0, 2), None),
            (wish("box", ("left", "bob"), 2, 2), ("a", "box", "", ())),
            (wish("box", ("left", "bob"), 2, 2, ("from", ("bob",))), ("bob", "box", "", ("auto",))),
            (wish("box", ("left", "a"), 0, 0), ("a", "box", "", ())),
            (wish("box", ("left", "a"), 2, 2), ("aa", "box", "", ())),
            (wish("box", ("left", "aa"), 0, 0), ("aa", "box", "", ())),
            (wish("box", ("left", "box"), 0, 0), None),
            (wish("box", ("filed", "box"), 1, 1), ("box", "box", "", ())),
            (wish("box", ("filed", "box"), 1, 3), None),
        )

    def test_a_closed_list_and_a_mailbox_without_rules(self):
        house = House()
        house.add_list("list", ("box", "eve", "zed"), tag="[x]", closed=True)
        house.add_mailbox("box")
        self.check(
            house,
            (wish("list", ALL, 3, 3), ("a", "list", "", ())),
            (wish("list", ALL, 3, 3, ("from", ("box", "eve", "zed"))), None),
            (wish("list", ALL, 0, 0), ("box", "list", "", ())),
            (wish("list", ("left", "eve"), 0, 0, ("contains", "[x]")), ("box", "list", "[x]", ())),
            (wish("box", ("filed", "box", "inbox"), 1, 1), None),
            (wish("box list", ("filed", "box", "inbox"), 1, 1), ("a", "list", "", ())),
        )

    def test_the_address_is_asked_before_the_sender(self):
        house = House()
        house.add_alias("b", "out")
        house.add_alias("c", "out")
        self.check(
            house,
            (wish("b c", ("left", "out"), 0, 0), ("a", "b", "", ())),
            (wish("b c", ("left", "out"), 0, 0, ("from", ("out", "zed"))), ("out", "b", "", ())),
            (wish("a b", ("left", "out"), 0, 0), ("a", "b", "", ())),
        )


class WishHoldsTest(unittest.TestCase):
    def test_each_part(self):
        house = ringing()
        for told, message, result in (
            (wish("box", ALL, 1, 1), ("a", "box", "", ()), True),
            (wish("box", ALL, 2, None), ("a", "box", "", ()), False),
            (wish("box", ALL, 0, 0), ("a", "box", "", ()), False),
            (wish("box", ALL, 0, 0), ("a", "ring", "", ()), True),
            (wish("box", ALL, 0, 0), ("a", "out", "", ()), True),
            (wish("box", ALL, 0, 0, ("is", "x")), ("a", "box", "", ()), True),
            (wish("box", ALL, 0, 0, ("is", "x")), ("a", "box", "x", ()), False),
            (wish("ring", ALL, 10 ** 59, None), ("a", "ring", "", ()), True),
            (wish("ring", ALL, 0, 10 ** 59), ("a", "ring", "", ()), False),
            (wish("out", ALL, 1, 1), ("a", "out", "", ()), True),
            (wish("out", ("left", "out"), 2, None), ("a", "out", "", ()), False),
            (wish("out", ("left", "ring"), 0, 0), ("a", "out", "", ()), True),
        ):
            with self.subTest((told, message)):
                self.assertIs(wish_holds(house, told, message), result)
                self.assertIs(wish_holds(house=house, wish=told, message=list(message)), result)
                self.assertIs(wish_holds(house, told, [*message[:3], list(message[3])]), result)

    def test_strange_senders(self):
        for sender in ("a", "bob", "zed"):
            message = (sender, "box", "", ())
            self.assertIs(wish_holds(replying(), wish("box", ("left", sender), 2, 2), message), True)
            self.assertIs(wish_holds(replying(), wish("box", ("left", "aa"), 0, 0), message), True)
            self.assertIs(wish_holds(replying(), wish("box", ("left", sender), 0, 1), message), False)


class BrokenFirstTest(unittest.TestCase):
    def test_places(self):
        house = example()
        one, two = wish("box", ALL, 1, None), wish("box", ALL, 0, 0)
        good, later = wish("box", ALL, 0, 1), wish("box", ALL, 1, None, ("begins", "b"))
        for wishes, result in (
            ([], None), ((), None), ([good], None), ([good, good], None),
            ([one], (0, ("a", "box", "ad", ()))),
            ([one, two], (1, ("a", "box", "", ()))),
            ([two, one], (0, ("a", "box", "", ()))),
            ([good, later, one, one, later], (2, ("a", "box", "ad", ()))),
            ((later, good), (0, ("a", "box", "bad", ()))),
            ([two, wish("out", ALL, 0, 0)], (0, ("a", "box", "", ()))),
            ([wish("out", ALL, 0, 0), two], (1, ("a", "box", "", ()))),
            ([wish("out", ALL, 0, 0), wish("a", ALL, 0, 0), two], (1, ("a", "a", "", ()))),
            # The wishes have other least messages each, but the least one breaks the later ones, too.
            ([wish("box", ALL, 0, 0, ("from", ("b",))), two, wish("a box", ALL, 0, 0, ("not", ("from", ("b",))))],
             (2, ("a", "a", "", ()))),
        ):
            with self.subTest(wishes):
                self.assertEqual(broken_first(house, wishes), result)
                self.assertEqual(broken_first(house=house, wishes=wishes), result)

    def test_the_first_that_is_no_wish(self):
        bad = [["all"], ("all",)]
        for wishes in ([wish("box", ALL, 0, 0), *bad], [*bad, wish("box", ALL, 0, 0)], tuple(bad)):
            with self.assertRaises(BadWish) as caught:
                broken_first(example(), wishes)
            self.assertIs(caught.exception.value, bad[0])


class DrawnTest(unittest.TestCase):
    def draw_wish(self, draw, house):
        names = [*house.addresses, "out", "zed", "zzz"]
        measures = [ALL, LEFT, ("left", draw.choice(names)), ("filed", draw.choice(names))]
        what = draw.choice([*measures, ("filed", draw.choice(names), draw.choice(["inbox", "old"]))])
        low = draw.choice([0, 0, 1, 2])
        condition = draw_condition(draw)
        if draw.random() < 0.4:
            condition = draw.choice([
                ALWAYS, ("marked", "q"), ("from", ("b", "eve")), ("not", ("from", ("a", "aa"))), ("is", "ca"), ("ends", "c")])
        addresses = tuple(sorted(draw.sample(names, draw.randint(1, 2))))
        return (addresses, condition, what, low, draw.choice([None, low, low, low + 1, 0]))

    def test_all_short_messages(self):
        none = some = 0
        for draw, house in cases(31, 150):
            told = self.draw_wish(draw, house)
            self.assertIs(is_wish(told), True)
            names = [*names_of(told[1]), *[name for name in told[2][1:]]]
            found = broken(house, told)
            messages = short_messages(house, told[0], names, marks_of(told[1]), 2)
            if found is None:
                none += 1
            else:
                some += 1
                self.assertIs(wish_holds(house, told, found), False)
                messages = [message for message in messages if message_key(message) < message_key(found)]
            for message in draw.sample(messages, min(len(messages), 400)):
                with self.subTest((told, message)):
                    self.assertIs(wish_holds(house, told, message), True)
        self.assertGreater(none, 20)
        self.assertGreater(some, 60)

    def test_as_told(self):
        for draw, house in cases(32, 200):
            told = self.draw_wish(draw, house)
            message = draw_message(draw, house)
            number = measure(house, message, told[2])
            low, high = told[3:]
            kept = (number is None or number >= low) and (high is None or (number is not None and number <= high))
            right = message[1] not in told[0] or not holds(told[1], message) or kept
            self.assertIs(wish_holds(house, told, message), right)

    def test_the_first_of_several(self):
        for draw, house in cases(33, 100):
            wishes = [self.draw_wish(draw, house) for _ in range(draw.randint(0, 4))]
            found = [message for message in [broken(house, told) for told in wishes] if message is not None]
            if not found:
                self.assertIsNone(broken_first(house, wishes))
            else:
                least = min(found, key=message_key)
                places = [place for place, told in enumerate(wishes) if not wish_holds(house, told, least)]
                self.assertEqual(broken_first(house, wishes), (places[0], least))


class ChangedHousesTest(unittest.TestCase):
    def test_a_changed_house_is_asked_anew(self):
        house = House()
        told = wish("box", ("filed", "box"), 1, 1)
        self.assertEqual(broken(house, told), ("a", "box", "", ()))
        house.add_mailbox("box")
        self.assertIsNone(broken(house, told))
        house.set_rules("box", [(("contains", "x"), (("file", "a"), ("file", "b")))])
        self.assertEqual(broken(house, told), ("a", "box", "x", ()))
        self.assertIs(wish_holds(house, told, ("a", "box", "x", ())), False)
        house.set_rules("box", [(("contains", "x"), (("file", "a"),))])
        self.assertIsNone(broken_first(house, [told]))
        house.remove("box")
        self.assertEqual(broken_first(house, [told]), (0, ("a", "box", "", ())))

    def test_what_is_passed_in_stays(self):
        for draw, house in cases(34, 20):
            before = house.copied()
            wishes = [wish("box", ALL, 0, 0), wish("out", LEFT, 1, 1)]
            broken_first(house, wishes)
            self.assertEqual(wishes, [wish("box", ALL, 0, 0), wish("out", LEFT, 1, 1)])
            self.assertEqual(house, before)


if __name__ == "__main__":
    unittest.main()
