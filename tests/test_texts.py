"""Points [20] and [21]: texts.py."""

import random
import unittest

from mailrings.conditions import is_condition
from mailrings.errors import BadText, MailError
from mailrings.houses import House, is_rule
from mailrings.names import is_message
from mailrings.texts import (
    condition_text, house_text, message_text, read_condition, read_house, read_message, read_rule, rule_text)
from tests.samples import ALWAYS, NEVER, cases, draw_condition, draw_message, draw_rule
from tests.values import OTHER_STRINGS, OTHER_VALUES

CONDITIONS = (
    (("from", ("ann",)), "from ann"),
    (("from", ("ann", "bob", "zzzzzzzzzzzz")), "from ann,bob,zzzzzzzzzzzz"),
    (("contains", "a b"), 'contains "a b"'),
    (("begins", 'a"b'), 'begins "a\\"b"'),
    (("ends", "\\"), 'ends "\\\\"'),
    (("ends", "\\\""), 'ends "\\\\\\""'),
    (("contains", "; ("), 'contains "; ("'),
    (("contains", "):"), 'contains "):"'),
    (("is", ""), 'is ""'),
    (("is", '";, :()-'), 'is "\\";, :()-"'),
    (("is", "        "), 'is "        "'),
    (("marked", "auto"), "marked auto"),
    (ALWAYS, "all ()"),
    (NEVER, "any ()"),
    (("not", ALWAYS), "not (all ())"),
    (("all", (NEVER,)), "all (any ())"),
    (("any", (("is", ";"), ("marked", "m"), ALWAYS)), 'any (is ";"; marked m; all ())'),
    (("not", ("all", (("not", ("is", "x")), ("from", ("a", "b"))))), 'not (all (not (is "x"); from a,b))'),
    (("not", ("not", ("not", NEVER))), "not (not (not (any ())))"),
    (("all", (("is", "x"),) * 8), "all (" + "; ".join(['is "x"'] * 8) + ")"),
)

ACTIONS = (
    (("file", "inbox"), "file inbox"), (("forward", "a"), "forward a"), (("mark", "auto"), "mark auto"),
    (("tag", "+ "), 'tag "+ "'), (("tag", 'a"\\'), 'tag "a\\"\\\\"'), (("reply", ", stop"), 'reply ", stop"'),
    (("drop",), "drop"), (("stop",), "stop"),
)


def sample():
    """Return a house and the lines of its text."""
    house = House()
    house.add_list("list", ("zed", "ann"), tag='[";"]', mark="m", closed=True)
    house.add_mailbox("empty")
    house.add_list("none", ())
    house.add_list("closed", ("a",), closed=True)
    house.add_mailbox("box", [(("from", ("ann", "bob")), (("tag", "+ "), ("file", "x"), ("stop",))), (NEVER, ())])
    house.add_list("tagged", ("b",), tag="t")
    house.add_list("marked", ("closed", "mark"), mark="closed")
    house.add_alias("post", "out")
    return house, [
        "mailbox box", 'when from ann,bob: tag "+ ", file x, stop', "when any ():",
        "list closed members a closed",
        "mailbox empty",
        'list list members zed,ann tag "[\\";\\"]" mark m closed',
        "list marked members closed,mark mark closed",
        "list none members -",
        "alias post to out",
        'list tagged members b tag "t"',
    ]


class Checks(unittest.TestCase):
    def refuse(self, read, *values):
        for value in values:
            with self.subTest(value):
                with self.assertRaises(BadText) as caught:
                    read(value)
                self.assertIs(caught.exception.value, value)
                self.assertIsInstance(caught.exception, MailError)

    def refuse_others(self, read):
        self.refuse(read, *[value for value in OTHER_VALUES if value != ""], *[text for text in OTHER_STRINGS if text != ""])

    def check_changed(self, read, told, texts):
        """Texts with a sign more, less or another are refused, or they are the texts of what is read."""
        draw = random.Random(3)
        refused = 0
        for text in texts:
            for _ in range(60):
                place = draw.randrange(len(text) + 1)
                cut = draw.randint(0, 2)
                other = text[:place] + draw.choice(["", "", " ", '"', "\\", ";", ",", "a", ")", "(", ":", "\n", "-"]) + text[place + cut:]
                try:
                    found = read(other)
                except BadText as error:
                    refused += 1
                    self.assertIs(error.value, other)
                else:
                    self.assertEqual(told(found), other)
        self.assertGreater(refused, 20 * len(texts))


class ConditionTextTest(Checks):
    def test_texts(self):
        for condition, text in CONDITIONS:
            with self.subTest(text):
                self.assertEqual(condition_text(condition), text)
                self.assertEqual(condition_text(condition=condition), text)
                self.assertEqual(read_condition(text), condition)
                self.assertEqual(read_condition(text=text), condition)

    def test_lists_in_the_place_of_tuples(self):
        self.assertEqual(condition_text(["all", [["from", ["a", "b"]], ["not", ["is", "x"]]]]), 'all (from a,b; not (is "x"))')

    def test_conditions_beyond_the_limits(self):
        five = ("not", ("not", ("not", ("not", ("is", "x")))))
        self.assertEqual(condition_text(five), 'not (not (not (not (is "x"))))')
        self.assertEqual(condition_text(("all", (ALWAYS,) * 9)), "all (" + "; ".join(["all ()"] * 9) + ")")

    def test_what_is_no_text(self):
        self.refuse_others(read_condition)
        self.refuse(
            read_condition, "", " ", "all", "all ", "all(", "all()", "all (", "all ( )", "all  ()", " all ()", "all () ",
            "all ()\n", "All ()", "all ()all ()", "all (all ())all ()", "all ();", "all (all ();)", "all (all (); )",
            "all (all ();all ())", "all (all () ; all ())", "all (all ();  all ())", "all (; all ())", "all ((all ()))",
            "(all ())", "not ()", "not all ()", "not (all (); all ())", "not(all ())", "not (all ()", "not ( all ())",
            "from", "from ", "from -", "from a,", "from ,a", "from a, b", "from a b", "from b,a", "from a,a", "from A", "from a;",
            "from abcdefghijklm", "from a,b ", 'from "a"', "marked", "marked ", "marked a,b", "marked -", "marked abcdefghijklm",
            "marked auto ", 'marked "a"', 'contains ""', 'begins ""', 'ends ""', "contains", "contains a", 'contains "a',
            'contains a"', 'contains "a" ', 'contains  "a"', "contains 'a'", 'contains"a"', 'contains "a"b"', 'contains "a\\b"',
            'contains "a\\"', 'contains "\\', 'contains "', 'is "a\\n"', 'is "\n"', 'is "%"', 'is "\u00e9"', 'is "\x7f"',
            'is "123456789"', 'contains "123456789"', 'is', "is ", 'is ""x', 'Is ""', 'has "a"', '"a"', "from a from b",
            "all (" + "; ".join(['is "x"'] * 9) + ")", 'not (not (not (not (is "x"))))', "not (not (not (not (all ()))))",
            "all (all (all (all (all ()))))", "not (" * 100000, "all (" * 5000 + ")" * 5000, "from " + "a" * 100000,
            'is "' + "x" * 100000 + '"', "from a,b\n", 'is "a" b',
        )

    def test_depths(self):
        for value in ("not (not (not (all ())))", 'not (not (not (is "x")))', "any (any (any (any ())))"):
            self.assertEqual(condition_text(read_condition(value)), value)

    def test_drawn_conditions(self):
        for draw, _ in cases(91, 300):
            condition = draw_condition(draw, 3)
            self.assertTrue(is_condition(condition))
            self.assertEqual(read_condition(condition_text(condition)), condition)

    def test_changed_texts(self):
        self.check_changed(read_condition, condition_text, [text for _, text in CONDITIONS])


class RuleTextTest(Checks):
    def test_the_example(self):
        rule = (("all", (("from", ("ann", "bob")), ("is", 'a"b'))), (("tag", "+ "), ("stop",)))
        text = 'when all (from ann,bob; is "a\\"b"): tag "+ ", stop'
        self.assertEqual(rule_text(rule), text)
        self.assertEqual(rule_text(rule=rule), text)
        self.assertEqual(read_rule(text=text), rule)

    def test_actions(self):
        for action, text in ACTIONS:
            with self.subTest(text):
                self.assertEqual(rule_text((ALWAYS, (action,))), "when all (): " + text)
                self.assertEqual(read_rule("when all (): " + text), (ALWAYS, (action,)))
        actions = tuple(action for action, _ in ACTIONS[:5])
        text = "when any (): " + ", ".join(text for _, text in ACTIONS[:5]) + ", drop"
        self.assertEqual(rule_text((NEVER, (*actions, ("drop",)))), text)
        self.assertEqual(read_rule(text), (NEVER, (*actions, ("drop",))))
        self.assertEqual(rule_text([["any", []], [["file", "a"], ["stop"]]]), "when any (): file a, stop")

    def test_without_actions(self):
        for condition, text in CONDITIONS:
            self.assertEqual(rule_text((condition, ())), "when " + text + ":")
            self.assertEqual(read_rule("when " + text + ":"), (condition, ()))

    def test_what_is_no_text(self):
        self.refuse_others(read_rule)
        front = "when all ():"
        self.refuse(
            read_rule, "", "when", "when ", "when :", "when all ()", "when all () :", "when all ();", "When all ():", " when all ():",
            "when  all ():", "all ():", "whenall ():", front + " ", front + "stop", front + "  stop", front + " stop ", front + " stop,",
            front + " stop, drop", front + " drop, file a", front + " stop, stop", front + " file a,", front + " file a,stop",
            front + " file a , stop", front + " file a,  stop", front + " file a stop", front + " file", front + " file ",
            front + " file A", front + " file a,b", front + ' file "a"', front + " file abcdefghijklm", front + " forward",
            front + " mark auto2", front + ' mark ""', front + " tag", front + " tag a", front + ' tag ""', front + ' tag "123456789"',
            front + ' tag "%"', front + ' reply "a', front + ' reply ""', front + " reply", front + " drop x", front + ' stop "x"',
            front + " none", front + " Drop", front + ", stop", front + " , stop", front + "\n", front + " stop\n",
            front + " " + ", ".join(["file a"] * 7), front + " " + ", ".join(["file a"] * 6 + ["stop"]),
            'when is "123456789":', "when not (not (not (not (all ())))):", "when from b,a: stop", front + front, front + " drop:",
        )
        self.assertEqual(len(read_rule(front + " " + ", ".join(["file a"] * 6))[1]), 6)

    def test_drawn_rules(self):
        for draw, house in cases(92, 300):
            rule = draw_rule(draw, house.addresses)
            self.assertTrue(is_rule(rule))
            self.assertEqual(read_rule(rule_text(rule)), rule)

    def test_changed_texts(self):
        texts = ["when " + text + ": " + action for (_, text), (_, action) in zip(CONDITIONS, ACTIONS * 3)]
        self.check_changed(read_rule, rule_text, texts)


class HouseTextTest(Checks):
    def test_a_house(self):
        house, lines = sample()
        text = "\n".join(lines)
        self.assertEqual(house_text(house), text)
        self.assertEqual(house_text(house=house), text)
        self.assertEqual(read_house(text), house)
        self.assertEqual(read_house(text=text), house)
        self.assertEqual(house, sample()[0])

    def test_an_empty_house(self):
        self.assertEqual(house_text(House()), "")
        self.assertEqual(read_house(""), House())

    def test_a_new_house(self):
        _, lines = sample()
        text = "\n".join(lines)
        read_house(text).remove("box")
        self.assertEqual(read_house(text), sample()[0])
        house = sample()[0]
        house.remove("list")
        self.assertEqual(house_text(house), "\n".join(line for line in lines if not line.startswith("list list")))

    def test_what_is_no_text(self):
        self.refuse_others(read_house)
        rule = "\nwhen all ():"
        self.refuse(
            read_house, " ", "\n", "-", "none", "mailbox", "mailbox ", "mailbox A", "mailbox a ", " mailbox a", "mailbox  a", "mailbox a\n",
            "\nmailbox a", "mailbox a\n\nmailbox b", "mailbox a b", "mailbox a,b", "Mailbox a", "mailboxa", "mailbox abcdefghijklm",
            "mailbox b\nmailbox a", "mailbox a\nmailbox a", "mailbox a\nalias a to b", "alias b to c\nlist a members -",
            "mailbox a\r\nmailbox b", "mailbox a mailbox b", "mailbox a;mailbox b",
            "when all ():", "alias a to b\nwhen all ():", "list a members -\nwhen all ():", "mailbox a" + rule + " ",
            "mailbox a\n" + rule, "mailbox a" + rule + "\n", "mailbox a when all ():", "mailbox a\n when all ():",
            "mailbox a" + rule + " stop, drop", "mailbox a" + rule * 11, "mailbox a\nwhen from b,a:", 'mailbox a\nwhen is "123456789":',
            "mailbox a" + rule + rule[1:], "mailbox a\nwhen not (not (not (not (all ())))):",
            "alias", "alias a", "alias a to", "alias a to ", "alias a to B", "alias a to b ", "alias a to b,c", "alias a to -",
            "alias a  to b", "alias a to  b", "alias a b", "alias to b", "alias a to b to c", "alias a to abcdefghijklm",
            "list", "list a", "list a members", "list a members ", "list a members -,b", "list a members b,-", "list a members --",
            "list a members b,", "list a members ,b", "list a members b, c", "list a members b c", "list a members b,b",
            "list a members B", "list a members " + ",".join("abcdefghi"), "list a members - ", "list a  members -",
            "list a members -closed", "list a members -  closed", "list a members - Closed", "list a members - closed ",
            "list a members - closed closed", 'list a members - closed tag "x"', "list a members - closed mark m",
            'list a members - mark m tag "x"', "list a members - tag", 'list a members - tag ""', "list a members - tag x",
            'list a members - tag "123456789"', 'list a members - tag "%"', 'list a members - tag "x', "list a members - mark",
            "list a members - mark ", "list a members - mark A", 'list a members - mark "m"', "list a members - mark a,b",
            "list a members - mark abcdefghijklm", 'list a members - tag "x" tag "y"', "list a members - mark m mark n",
            'list a members - tag "x"mark m', "list a members b mark", "list a members a:", "list - members a",
            "\n".join("mailbox " + "a" * many for many in range(1, 14)),
            "\n".join(f"mailbox {letter}" for letter in "abcdefghijklmnopqrstu"),
            "mailbox a\n" * 100000, "mailbox a" + rule * 50000,
        )

    def test_limits(self):
        for text in (
            "mailbox a" + "\nwhen all ():" * 10, "\n".join(f"mailbox {letter}" for letter in "abcdefghijklmnopqrst"),
            "list a members " + ",".join("hgfedcba"), 'list a members - tag "12345678" mark abcdefghijkl closed',
        ):
            self.assertEqual(house_text(read_house(text)), text)

    def test_ordered_by_names(self):
        house = House()
        for name in ("b", "aa", "a", "ab"):
            house.add_alias(name, "x")
        text = "alias a to x\nalias aa to x\nalias ab to x\nalias b to x"
        self.assertEqual(house_text(house), text)
        self.assertEqual(read_house(text), house)

    def test_drawn_houses(self):
        for _, house in cases(93, 300):
            self.assertEqual(read_house(house_text(house)), house)

    def test_changed_texts(self):
        texts = [house_text(house) for _, house in cases(94, 60)]
        self.check_changed(read_house, house_text, [*texts, "\n".join(sample()[1])])


class MessageTextTest(Checks):
    def test_texts(self):
        for message, text in (
            (("ann", "box", "hi", ()), 'ann box - "hi"'),
            (("ann", "box", "", ("auto",)), 'ann box auto ""'),
            (("a", "b", 'a "b" \\;', ("auto", "m", "n")), 'a b auto,m,n "a \\"b\\" \\\\;"'),
            (("a", "a", "\\\"", ()), 'a a - "\\\\\\""'),
            (("a", "a", "- -", ()), 'a a - "- -"'),
            (("a", "b", "x" * 5000, tuple("abcdefghijklmnop")), "a b " + ",".join("abcdefghijklmnop") + ' "' + "x" * 5000 + '"'),
        ):
            with self.subTest(text):
                self.assertEqual(message_text(message), text)
                self.assertEqual(message_text(message=[*message[:3], list(message[3])]), text)
                self.assertEqual(read_message(text), message)
                self.assertEqual(read_message(text=text), message)

    def test_what_is_no_text(self):
        self.refuse_others(read_message)
        self.refuse(
            read_message, "", "ann", "ann box", "ann box -", "ann box - ", 'ann box "hi"', 'ann - "hi"', 'box - "hi"', "ann box - hi",
            'ann box - "hi" ', ' ann box - "hi"', 'ann  box - "hi"', 'ann box  - "hi"', 'ann box -  "hi"', 'ann box -"hi"',
            'ann box - "hi', 'ann box - hi"', "ann box - 'hi'", 'ann box - "h"i"', 'ann box - "h\\i"', 'ann box - "hi\\"',
            'ann box - "hi""', 'ann box - "%"', 'ann box - "\n"', 'ann box - "hi"\n', 'ann box - "\u00e9"', 'Ann box - "hi"',
            'ann Box - "hi"', 'ann box A "hi"', 'ann box b,a "hi"', 'ann box a,a "hi"', 'ann box a, b "hi"', 'ann box a,- "hi"',
            'ann box -,a "hi"', 'ann box , "hi"', 'ann box a, "hi"', 'ann box - - "hi"', 'ann box a b "hi"', 'ann,bob box - "hi"',
            'abcdefghijklm box - "hi"', 'ann abcdefghijklm - "hi"', 'ann box abcdefghijklm "hi"', 'ann\tbox - "hi"', 'ann box - "\x7f"',
            'ann box - "hi" x', 'ann box () "hi"',
        )

    def test_drawn_messages(self):
        for draw, house in cases(95, 200):
            message = draw_message(draw, house)
            subject = "".join(chr(draw.choice([34, 92, 59, 32, 126, 40, 97])) for _ in range(draw.randint(0, 9)))
            message = (*message[:2], subject, message[3])
            self.assertTrue(is_message(message))
            self.assertEqual(read_message(message_text(message)), message)

    def test_changed_texts(self):
        self.check_changed(read_message, message_text, ['ann box auto,m "a \\"b\\" \\\\;"', 'ann box - ""'] * 10)


if __name__ == "__main__":
    unittest.main()
