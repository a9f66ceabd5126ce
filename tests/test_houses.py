"""Points [2], [6], [7] and the cuts of [19]: houses.py."""

import unittest

from mailrings.errors import BadHouse, BadName, BadPlace, BadRule, TakenName, UnknownName
from mailrings.houses import House, is_rule
from mailrings.names import is_name, is_text
from tests.samples import ALWAYS, all_cuts, cases
from tests.values import OTHER_STRINGS, OTHER_VALUES

FILE = ("file", "old")
ACTIONS = (
    FILE, ("file", "inbox"), ("forward", "ann"), ("mark", "a"), ("mark", "abcdefghijkl"), ("tag", "x"), ("tag", "12345678"),
    ("reply", " "), ("reply", "~~~~~~~~"),
)
RULE = (ALWAYS, (FILE,))
PLACES = (True, False, -1, 10 ** 59, -(10 ** 59), None, "0", "", "box", (), (0,), [0], [], {}, {0: 0}, 0.0, b"")


class Refusals(unittest.TestCase):
    """Tests that look at what an error keeps, and that nothing was changed."""

    def refuse(self, error, value, house, call, *parts, **more):
        before = house.copied()
        with self.assertRaises(error) as caught:
            call(*parts, **more)
        kept = getattr(caught.exception, "name" if error in (UnknownName, TakenName) else "value")
        if error is BadHouse and isinstance(value, tuple):
            self.assertIsInstance(kept, tuple)
            self.assertEqual(len(kept), len(value))
            for one, other in zip(kept, value):
                self.assertIs(one, other)
        else:
            self.assertIs(kept, value)
        self.assertEqual(house, before)


class IsRuleTest(unittest.TestCase):
    def test_actions(self):
        for action in (*ACTIONS, ("drop",), ("stop",)):
            with self.subTest(action):
                self.assertIs(is_rule((ALWAYS, (action,))), True)
                self.assertIs(is_rule((ALWAYS, (FILE, action))), True)
        self.assertIs(is_rule((ALWAYS, ACTIONS[:6])), True)
        self.assertIs(is_rule((ALWAYS, ())), True)

    def test_six_and_seven_actions(self):
        for many in range(0, 12):
            self.assertIs(is_rule((ALWAYS, (FILE,) * many)), many <= 6)
        self.assertIs(is_rule((ALWAYS, (FILE,) * 5 + (("drop",),))), True)
        self.assertIs(is_rule((ALWAYS, (FILE,) * 6 + (("drop",),))), False)

    def test_drop_and_stop_stand_last(self):
        for end in (("drop",), ("stop",)):
            for actions in ((end, FILE), (FILE, end, FILE), (end, end), (end, ("stop",)), (end, ("drop",)), (end,) * 3):
                with self.subTest(actions):
                    self.assertIs(is_rule((ALWAYS, actions)), False)

    def test_wrong_actions(self):
        for action in (
            ("file",), ("file", "a", "b"), ("file", ""), ("file", "A"), ("file", "abcdefghijklm"), ("forward", "a b"),
            ("mark", ""), ("tag", ""), ("tag", "123456789"), ("tag", "%"), ("tag", "a\n"), ("reply", ""), ("reply", "%"),
            ("drop", "a"), ("stop", ""), ("drop", None), ("Drop",), ("files", "a"), ("send", "a"), ["file", "a"], ["drop"],
            "drop", "stop", (), ("",), (("drop",),), ("file", ["a"]), ("tag", ("a",)), {"file": "a"}, ("file", True),
        ):
            with self.subTest(action):
                self.assertIs(is_rule((ALWAYS, (action,))), False)
                self.assertIs(is_rule((ALWAYS, (FILE, action))), False)
                self.assertIs(is_rule((ALWAYS, (action, FILE))), False)

    def test_wrong_parts(self):
        for value in (*OTHER_VALUES, *OTHER_STRINGS):
            with self.subTest(value):
                self.assertIs(is_rule((value, ())), False)
                self.assertIs(is_rule((ALWAYS, value)), value == ())
                self.assertIs(is_rule((ALWAYS, (value,))), False)
                self.assertIs(is_rule((ALWAYS, ((value,),))), False)
                self.assertIs(is_rule((ALWAYS, ((value, "a"),))), False)
                for word in ("file", "forward", "mark"):
                    self.assertIs(is_rule((ALWAYS, ((word, value),))), is_name(value))
                for word in ("tag", "reply"):
                    self.assertIs(is_rule((ALWAYS, ((word, value),))), is_text(value))

    def test_other_values(self):
        for value in (
            *OTHER_VALUES, *OTHER_STRINGS, (ALWAYS,), (ALWAYS, (), ()), [ALWAYS, ()], (ALWAYS, []), (ALWAYS, [FILE]),
            (["all", ()], ()), (("all", []), ()), ((), ALWAYS), (FILE, ALWAYS), (("all",), ()), {ALWAYS: ()},
        ):
            with self.subTest(value):
                self.assertIs(is_rule(value), False)

    def test_deep_conditions(self):
        deep = ("not", ("not", ("not", ALWAYS)))
        self.assertIs(is_rule((deep, ())), True)
        self.assertIs(is_rule((("not", deep), ())), False)

    def test_by_name(self):
        self.assertIs(is_rule(value=RULE), True)


class MailboxTest(Refusals):
    def test_what_it_has(self):
        house = House()
        house.add_mailbox("box")
        house.add_mailbox("abcdefghijkl", [RULE, (("from", ("a", "b")), (("drop",),))])
        house.add_mailbox("a", (RULE,))
        self.assertEqual(house.addresses, ["a", "abcdefghijkl", "box"])
        self.assertEqual([house.sort_of(name) for name in house.addresses], ["mailbox"] * 3)
        self.assertEqual(house.rules_of("box"), ())
        self.assertEqual(house.rules_of("a"), (RULE,))
        self.assertEqual(house.rules_of("abcdefghijkl"), (RULE, (("from", ("a", "b")), (("drop",),))))
        self.assertIsInstance(house.rules_of("abcdefghijkl"), tuple)
        self.assertIsNone(house.add_mailbox("zed"))

    def test_the_example(self):
        house = House()
        house.add_mailbox("box", [(("all", ()), (("forward", "ann"), ("drop",)))])
        house.add_alias("post", "box")
        self.assertEqual(
            [house.addresses, house.sort_of("post"), house.without_rule("box", 0).rules_of("box")],
            [["box", "post"], "alias", ()])

    def test_wrong_names(self):
        house = House()
        for name in (*OTHER_VALUES, *OTHER_STRINGS):
            with self.subTest(name):
                self.refuse(BadName, name, house, house.add_mailbox, name)
                self.refuse(BadName, name, house, house.add_mailbox, name, [None] * 11)

    def test_taken_names(self):
        house = House()
        house.add_mailbox("box")
        house.add_list("list", ())
        house.add_alias("post", "out")
        for name in ("box", "list", "post"):
            self.refuse(TakenName, name, house, house.add_mailbox, name, [None])
        house.add_mailbox("out")

    def test_wrong_rules(self):
        house = House()
        house.add_mailbox("full", [RULE] * 10)
        for value in (*OTHER_VALUES, *OTHER_STRINGS, (ALWAYS, (FILE,) * 7), (ALWAYS, (("drop",), FILE)), [ALWAYS, ()]):
            with self.subTest(value):
                for rules in ([value], (value,), [RULE, value], [RULE, value, None], [RULE] * 11 + [value], [value] * 12):
                    self.refuse(BadRule, value, house, house.add_mailbox, "box", rules)
                    self.refuse(BadRule, value, house, house.set_rules, "full", rules)

    def test_ten_and_eleven_rules(self):
        for kind in (list, tuple):
            house = House()
            house.add_mailbox("box", kind([RULE] * 10))
            self.assertEqual(house.rules_of("box"), (RULE,) * 10)
            other = (("is", "x"), ())
            rules = kind([RULE] * 5 + [other] * 6)
            self.refuse(BadHouse, tuple(rules), house, house.add_mailbox, "b", rules)
            self.refuse(BadHouse, tuple(rules), house, house.set_rules, "box", rules)

    def test_rules_are_copied(self):
        house = House()
        rules = [RULE]
        house.add_mailbox(name="box", rules=rules)
        rules.append(None)
        self.assertEqual(house.rules_of("box"), (RULE,))
        more = [(("is", ""), ())]
        house.set_rules("box", more)
        more.clear()
        self.assertEqual(house.rules_of(name="box"), ((("is", ""), ()),))

    def test_set_rules(self):
        house = House()
        house.add_mailbox("box", [RULE])
        house.add_list("list", ("box",))
        house.add_alias("post", "box")
        self.assertIsNone(house.set_rules(name="box", rules=()))
        self.assertEqual(house.rules_of("box"), ())
        for name in (*OTHER_VALUES, *OTHER_STRINGS, "list", "post", "out"):
            with self.subTest(name):
                self.refuse(UnknownName, name, house, house.set_rules, name, [RULE])
                self.refuse(UnknownName, name, house, house.set_rules, name, [None] * 11)


class ListTest(Refusals):
    WRONG = (
        *[(members, "", "", False) for members in (
            ["a"], [], "a", "", None, {}, {"a": 1}, 0, True, ("a", "a"), ("b", "a", "b"), ("A",), ("",), (1,), (True,),
            (None,), (("a",),), (["a"],), ("a", "abcdefghijklm"), tuple("abcdefghi"), tuple("abcdefghijklmnop"))],
        *[((), tag, "", False) for tag in (
            "123456789", "%", "a\n", None, 0, False, True, (), [], {}, ("a",), ["a"], b"", b"a", "\u00e9")],
        *[((), "", mark, False) for mark in (
            "A", " ", "abcdefghijklm", None, 0, False, True, (), [], {}, ("a",), ["a"], b"")],
        *[((), "", "", closed) for closed in (0, 1, None, "", "a", "True", (), [], {}, (True,), [False], 10 ** 59)],
        (["a"], "%", "A", 1), (("a",), "ok", "A", True), (("a",), "%", "a", True),
    )

    def test_what_it_has(self):
        house = House()
        self.assertIsNone(house.add_list("list", ("zed", "ann", "list")))
        house.add_list("full", tuple("hgfedcba"), tag="12345678", mark="abcdefghijkl", closed=True)
        house.add_list("none", ())
        self.assertEqual([house.sort_of(name) for name in house.addresses], ["list"] * 3)
        self.assertEqual(house.list_of("list"), (("zed", "ann", "list"), "", "", False))
        self.assertEqual(house.list_of("full"), (tuple("hgfedcba"), "12345678", "abcdefghijkl", True))
        self.assertEqual(house.list_of(name="none"), ((), "", "", False))
        self.assertIs(house.list_of("full")[3], True)
        self.assertIsInstance(house.list_of("full"), tuple)

    def test_eight_and_nine_members(self):
        house = House()
        for many in range(0, 9):
            house.add_list("abcdefghij"[many], tuple("abcdefghij"[:many]))
        for many in (9, 10):
            members = tuple("abcdefghij"[:many])
            self.refuse(BadHouse, (members, "", "", False), house, house.add_list, "list", members)

    def test_wrong_parts(self):
        house = House()
        house.add_list("old", ("a",), tag="t", mark="m", closed=True)
        for what in self.WRONG:
            with self.subTest(what):
                members, tag, mark, closed = what
                more = {"tag": tag, "mark": mark, "closed": closed}
                self.refuse(BadHouse, what, house, house.add_list, "list", members, **more)
                self.refuse(BadHouse, what, house, house.set_list, "old", members, **more)

    def test_wrong_names(self):
        house = House()
        for name in (*OTHER_VALUES, *OTHER_STRINGS):
            with self.subTest(name):
                self.refuse(BadName, name, house, house.add_list, name, ())
                self.refuse(BadName, name, house, house.add_list, name, ["a"], tag=None)

    def test_taken_names(self):
        house = House()
        house.add_mailbox("box")
        house.add_list("list", ())
        house.add_alias("post", "out")
        for name in ("box", "list", "post"):
            self.refuse(TakenName, name, house, house.add_list, name, ())
            self.refuse(TakenName, name, house, house.add_list, name, ["a"], closed=1)

    def test_tag_mark_and_closed_only_by_name(self):
        house = House()
        house.add_list("list", ())
        for call in (house.add_list, house.set_list):
            self.assertRaises(TypeError, call, "list", (), "t")
            self.assertRaises(TypeError, call, "list")

    def test_set_list(self):
        house = House()
        house.add_mailbox("box")
        house.add_alias("post", "box")
        house.add_list("list", ("a",), tag="t", mark="m", closed=True)
        self.assertIsNone(house.set_list(name="list", members=("b", "a")))
        self.assertEqual(house.list_of("list"), (("b", "a"), "", "", False))
        house.set_list("list", (), closed=True, tag="+")
        self.assertEqual(house.list_of("list"), ((), "+", "", True))
        house.set_list("list", ("x",), mark="m")
        self.assertEqual(house.list_of("list"), (("x",), "", "m", False))
        for name in (*OTHER_VALUES, *OTHER_STRINGS, "box", "post", "out"):
            with self.subTest(name):
                self.refuse(UnknownName, name, house, house.set_list, name, ())
                self.refuse(UnknownName, name, house, house.set_list, name, None)


class AliasTest(Refusals):
    def test_what_it_has(self):
        house = House()
        self.assertIsNone(house.add_alias(name="post", target="box"))
        house.add_alias("self", "self")
        self.assertEqual([house.sort_of(name) for name in house.addresses], ["alias"] * 2)
        self.assertEqual([house.target_of("post"), house.target_of(name="self")], ["box", "self"])

    def test_errors_in_their_sequence(self):
        house = House()
        house.add_mailbox("box")
        house.add_list("list", ())
        house.add_alias("post", "box")
        for value in (*OTHER_VALUES, *OTHER_STRINGS):
            with self.subTest(value):
                self.refuse(BadName, value, house, house.add_alias, value, "a")
                self.refuse(BadName, value, house, house.add_alias, value, ["wrong"])
                self.refuse(BadName, value, house, house.add_alias, "a", value)
                for name in ("box", "list", "post"):
                    self.refuse(TakenName, name, house, house.add_alias, name, value)


class AddressesTest(Refusals):
    def full(self):
        house = House()
        for number, letter in enumerate("abcdefghijklmnopqrst"):
            if number % 3 == 0:
                house.add_mailbox(letter)
            elif number % 3 == 1:
                house.add_list(letter, ())
            else:
                house.add_alias(letter, "a")
        return house

    def test_twenty_and_one_more(self):
        house = self.full()
        self.assertEqual(house.addresses, list("abcdefghijklmnopqrst"))
        self.refuse(BadHouse, "box", house, house.add_mailbox, "box")
        self.refuse(BadHouse, "box", house, house.add_list, "box", ())
        self.refuse(BadHouse, "box", house, house.add_alias, "box", "a")

    def test_the_room_is_asked_last(self):
        house = self.full()
        self.refuse(BadName, "A", house, house.add_mailbox, "A")
        self.refuse(TakenName, "b", house, house.add_mailbox, "b")
        rules = (None,)
        self.refuse(BadRule, None, house, house.add_mailbox, "box", rules)
        self.refuse(BadHouse, (RULE,) * 11, house, house.add_mailbox, "box", (RULE,) * 11)
        members = ["a"]
        self.refuse(BadHouse, (members, "", "", False), house, house.add_list, "box", members)
        self.refuse(BadName, "A", house, house.add_alias, "box", "A")

    def test_a_full_house_may_be_changed(self):
        house = self.full()
        house.set_rules("a", [RULE])
        house.set_list("b", ("c",))
        house.remove("t")
        house.add_mailbox("box")
        self.assertEqual(len(house.addresses), 20)

    def test_remove(self):
        house = self.full()
        self.assertIsNone(house.remove(name="a"))
        house.remove("b")
        house.remove("c")
        self.assertEqual(house.addresses, list("defghijklmnopqrst"))
        for name in (*OTHER_VALUES, *OTHER_STRINGS, "a", "out"):
            with self.subTest(name):
                self.refuse(UnknownName, name, house, house.remove, name)
        house.add_alias("a", "b")
        self.assertEqual(house.sort_of("a"), "alias")

    def test_addresses_are_new_and_ascending(self):
        house = House()
        self.assertEqual(house.addresses, [])
        for name in ("m", "zed", "a", "aa"):
            house.add_mailbox(name)
        self.assertEqual(house.addresses, ["a", "aa", "m", "zed"])
        house.addresses.append("more")
        house.addresses.clear()
        self.assertEqual(house.addresses, ["a", "aa", "m", "zed"])

    def test_what_is_asked_of_another_sort(self):
        house = House()
        house.add_mailbox("box")
        house.add_list("list", ())
        house.add_alias("post", "box")
        calls = {"mailbox": house.rules_of, "list": house.list_of, "alias": house.target_of}
        for sort, call in calls.items():
            for name in (*OTHER_VALUES, *OTHER_STRINGS, "out", "box", "list", "post"):
                with self.subTest((sort, name)):
                    if name not in ("box", "list", "post") or house.sort_of(name) != sort:
                        self.refuse(UnknownName, name, house, call, name)
        for name in (*OTHER_VALUES, *OTHER_STRINGS, "out"):
            with self.subTest(name):
                self.refuse(UnknownName, name, house, house.sort_of, name)
        self.assertEqual(house.sort_of(name="list"), "list")


class EqualTest(unittest.TestCase):
    def house(self):
        house = House()
        house.add_mailbox("box", [RULE])
        house.add_list("list", ("a", "b"), tag="t", mark="m", closed=True)
        house.add_alias("post", "box")
        return house

    def test_the_sequence_does_not_matter(self):
        other = House()
        other.add_alias("post", "box")
        other.add_list("list", ("a", "b"), closed=True, mark="m", tag="t")
        other.add_mailbox("box")
        self.assertIs(self.house() == other, False)
        other.set_rules("box", (RULE,))
        self.assertIs(self.house() == other, True)
        self.assertIs(self.house() != other, False)
        self.assertIs(House() == House(), True)

    def test_each_difference(self):
        changes = (
            lambda house: house.remove("post"),
            lambda house: house.add_mailbox("new"),
            lambda house: house.set_rules("box", [RULE, RULE]),
            lambda house: house.set_rules("box", [(ALWAYS, ())]),
            lambda house: house.set_list("list", ("b", "a"), tag="t", mark="m", closed=True),
            lambda house: house.set_list("list", ("a", "b"), tag="u", mark="m", closed=True),
            lambda house: house.set_list("list", ("a", "b"), tag="t", mark="", closed=True),
            lambda house: house.set_list("list", ("a", "b"), tag="t", mark="m"),
            lambda house: (house.remove("post"), house.add_alias("post", "list")),
            lambda house: (house.remove("post"), house.add_mailbox("post")),
        )
        for number, change in enumerate(changes):
            with self.subTest(number):
                house = self.house()
                other = house.copied()
                self.assertIs(house == other, True)
                change(other)
                self.assertIs(house == other, False)
                self.assertIs(other == house, False)
                self.assertEqual(house, self.house())

    def test_other_values(self):
        for value in (*OTHER_VALUES, *OTHER_STRINGS):
            with self.subTest(value):
                self.assertIs(self.house() == value, False)
                self.assertIs(House() == value, False)

    def test_a_copy_is_on_its_own(self):
        house = self.house()
        copy = house.copied()
        self.assertIsInstance(copy, House)
        copy.remove("box")
        copy.set_list("list", ())
        self.assertEqual(house, self.house())
        house.add_mailbox("new")
        self.assertEqual(copy.addresses, ["list", "post"])


class RulesChangedTest(Refusals):
    RULES = tuple((("is", str(number)), ()) for number in range(4))

    def house(self):
        house = House()
        house.add_mailbox("box", self.RULES)
        house.add_mailbox("one", [RULE])
        house.add_mailbox("none")
        house.add_list("list", ("box",))
        house.add_alias("post", "box")
        return house

    def test_without_rule(self):
        for place in range(4):
            house = self.house()
            other = house.without_rule(name="box", place=place)
            self.assertEqual(other.rules_of("box"), self.RULES[:place] + self.RULES[place + 1:])
            self.assertEqual(house, self.house())
            other.set_rules("box", self.RULES)
            self.assertEqual(other, house)
        self.assertEqual(self.house().without_rule("one", 0).rules_of("one"), ())

    def test_with_rules_changed(self):
        a, b, c, d = self.RULES
        for place, rules in enumerate([(b, a, c, d), (a, c, b, d), (a, b, d, c)]):
            house = self.house()
            other = house.with_rules_changed(name="box", place=place)
            self.assertEqual(other.rules_of("box"), rules)
            self.assertEqual(house, self.house())
            other.set_rules("box", self.RULES)
            self.assertEqual(other, house)

    def test_wrong_places(self):
        house = self.house()
        for call, last in ((house.without_rule, 4), (house.with_rules_changed, 3)):
            for place in (*OTHER_VALUES, *PLACES, *OTHER_STRINGS):
                if place is not OTHER_VALUES[0] and place is not OTHER_VALUES[1]:
                    with self.subTest((last, place)):
                        self.refuse(BadPlace, place, house, call, "box", place)
            self.refuse(BadPlace, last, house, call, "box", last)
            self.refuse(BadPlace, last + 1, house, call, "box", last + 1)
            self.refuse(BadPlace, 0, house, call, "none", 0)
        self.refuse(BadPlace, 1, house, house.without_rule, "one", 1)
        self.refuse(BadPlace, 0, house, house.with_rules_changed, "one", 0)

    def test_wrong_names(self):
        house = self.house()
        for name in (*OTHER_VALUES, *OTHER_STRINGS, "list", "post", "out"):
            with self.subTest(name):
                self.refuse(UnknownName, name, house, house.without_rule, name, 0)
                self.refuse(UnknownName, name, house, house.without_rule, name, "0")
                self.refuse(UnknownName, name, house, house.with_rules_changed, name, 0)
                self.refuse(UnknownName, name, house, house.with_rules_changed, name, None)


class CutsTest(Refusals):
    def house(self):
        house = House()
        house.add_mailbox("box", [
            (ALWAYS, (("tag", "a"), ("forward", "ann"), ("file", "old"), ("reply", "re"), ("stop",))),
            (("is", "x"), ()),
            (("is", "y"), (("forward", "list"), ("forward", "list"), ("drop",))),
        ])
        house.add_list("list", ("box", "ann", "list"), tag="t", mark="m", closed=True)
        house.add_alias("post", "box")
        house.add_mailbox("none")
        return house

    def test_sent(self):
        rules = self.house().rules_of("box")
        for cuts, first, last in (
            ([("sent", "box", 0, 1)], (("tag", "a"), ("file", "old"), ("reply", "re"), ("stop",)), rules[2][1]),
            ([("sent", "box", 0, 3)], (("tag", "a"), ("forward", "ann"), ("file", "old"), ("stop",)), rules[2][1]),
            ([("sent", "box", 0, 1), ("sent", "box", 0, 3)], (("tag", "a"), ("file", "old"), ("stop",)), rules[2][1]),
            ([("sent", "box", 0, 3), ("sent", "box", 0, 1)], (("tag", "a"), ("file", "old"), ("stop",)), rules[2][1]),
            ([("sent", "box", 2, 0), ("sent", "box", 2, 1)], rules[0][1], (("drop",),)),
            ([("sent", "box", 2, 1)], rules[0][1], (("forward", "list"), ("drop",))),
        ):
            with self.subTest(cuts):
                other = self.house().with_cuts(cuts)
                self.assertEqual(other.rules_of("box"), ((ALWAYS, first), rules[1], (("is", "y"), last)))
                other.set_rules("box", rules)
                self.assertEqual(other, self.house())

    def test_members(self):
        other = self.house().with_cuts([("member", "list", "ann")])
        self.assertEqual(other.list_of("list"), (("box", "list"), "t", "m", True))
        other = self.house().with_cuts([("member", "list", "list"), ("member", "list", "box")])
        self.assertEqual(other.list_of("list"), (("ann",), "t", "m", True))
        self.assertEqual(other.rules_of("box"), self.house().rules_of("box"))

    def test_alias(self):
        other = self.house().with_cuts([("alias", "post")])
        self.assertEqual(other.sort_of("post"), "list")
        self.assertEqual(other.list_of("post"), ((), "", "", False))

    def test_all_at_once(self):
        house = self.house()
        other = house.with_cuts(cuts=tuple(all_cuts(house)))
        self.assertEqual(all_cuts(other), [])
        self.assertEqual(other.addresses, house.addresses)
        self.assertEqual([actions for _, actions in other.rules_of("box")], [
            (("tag", "a"), ("file", "old"), ("stop",)), (), (("drop",),)])
        self.assertEqual(house, self.house())

    def test_no_cuts(self):
        house = self.house()
        other = house.with_cuts([])
        self.assertEqual(other, house)
        other.remove("box")
        self.assertEqual(house, self.house())

    def test_no_cuts_of_the_house(self):
        house = self.house()
        for value in (
            *OTHER_VALUES, *OTHER_STRINGS, ("sent", "box", 0, 0), ("sent", "box", 0, 2), ("sent", "box", 0, 4),
            ("sent", "box", 0, 5), ("sent", "box", 0, -1), ("sent", "box", 1, 0), ("sent", "box", 3, 0),
            ("sent", "box", -1, 0), ("sent", "box", 0, True), ("sent", "box", False, 1), ("sent", "box", 2, False),
            ("sent", "box", 0), ("sent", "box"), ("sent", "box", 0, 1, 0), ("sent", "list", 0, 1), ("sent", "post", 0, 1),
            ("sent", "ann", 0, 1), ["sent", "box", 0, 1], ("sent", ["box"], 0, 1), ("sent", "box", [0], 1),
            ("sent", "box", 0, {}), ("sent", "box", "0", 1), ("sent", "box", 0, 10 ** 59), ("sent", None, 0, 1),
            ("member", "list", "bob"), ("member", "list"), ("member", "list", "ann", 0), ("member", "box", "ann"),
            ("member", "post", "box"), ("member", "list", ["ann"]), ["member", "list", "ann"], ("member", "list", None),
            ("member", "list", 0), ("member", {}, "ann"), ("member", "post", "b"), ("member", "none", "ann"),
            ("sent", "none", 0, 0), ("alias", "none"), ("alias", "box"), ("alias", "list"), ("alias", "out"),
            ("alias", "post", "box"), ("alias",), ["alias", "post"], ("alias", ["post"]), ("alias", None), ("list", "list"),
            ("mailbox", "box"), ("Alias", "post"), (["alias"], "post"), (None, "post"), ("members", "list", "ann"),
        ):
            with self.subTest(value):
                self.refuse(BadPlace, value, house, house.with_cuts, [value])
                self.refuse(BadPlace, value, house, house.with_cuts, [("alias", "post"), value, None])

    def test_cuts_named_twice(self):
        house = self.house()
        for cut in all_cuts(house):
            with self.subTest(cut):
                again = tuple(list(cut))
                self.assertIsNot(again, cut)
                self.refuse(BadPlace, again, house, house.with_cuts, [cut, again])
                self.refuse(BadPlace, again, house, house.with_cuts, [*all_cuts(house), again, None])

    def test_drawn(self):
        for draw, house in cases(7, 60):
            cuts = all_cuts(house)
            some = draw.sample(cuts, draw.randint(0, len(cuts)))
            other = house.with_cuts(some)
            self.assertEqual(len(all_cuts(other)), len(cuts) - len(some))
            self.assertEqual(other, house.with_cuts(some[::-1]))


if __name__ == "__main__":
    unittest.main()
