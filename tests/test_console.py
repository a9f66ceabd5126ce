"""Point [23]: console.py."""

import unittest

from mailrings.console import Console
from mailrings.errors import BadCommand, MailError, NothingWaiting
from mailrings.firing import idle_rules
from mailrings.houses import House
from mailrings.numbers import arrivals, filings, leavings
from mailrings.rings import first_endless
from mailrings.storms import growth
from mailrings.texts import house_text, message_text
from mailrings.works import Work
from tests.samples import cases, draw_busy_house, draw_message
from tests.test_numbers import counting
from tests.values import OTHER_STRINGS, OTHER_VALUES

HOUSE = "list l members n,zed\nmailbox n"


def total(numbers):
    """Return the text of the sum of numbers."""
    return "endless" if None in numbers else str(sum(numbers))


class Checks(unittest.TestCase):
    def told(self, console):
        return console("house"), console("mail")

    def refuse(self, console, *commands):
        before = self.told(console)
        for command in commands:
            with self.subTest(command):
                with self.assertRaises(BadCommand) as caught:
                    console(command)
                self.assertIs(caught.exception.command, command)
                self.assertIsInstance(caught.exception, MailError)
        self.assertEqual(self.told(console), before)


class CommandsTest(Checks):
    def test_at_first(self):
        console = Console()
        self.assertEqual(
            [console(word) for word in ("house", "mail", "idle", "endless", "run 0", "run 5")], ["", "none", "none", "none", "0", "0"])
        self.assertEqual(console('count ann box - ""'), "0 0 1")
        self.assertEqual(console('growth ann box - ""'), "ends")
        with self.assertRaises(NothingWaiting):
            console("step 1")

    def test_mail(self):
        console = Console()
        self.assertEqual(console("load " + HOUSE), "ok")
        self.assertEqual(console("house"), HOUSE)
        self.assertEqual(console('send ann l - "x"'), "1")
        self.assertEqual(console(command='send ann n m "y"'), "2")
        self.assertEqual(console("mail"), "1 2")
        self.assertEqual(console("step 1"), "3 4")
        self.assertEqual(console("mail"), "2 3 4")
        self.assertEqual(console("step 3"), "none")
        self.assertEqual(console("run 1"), "1")
        self.assertEqual(console("mail"), "4")
        self.assertEqual(console("run " + "9" * 60), "1")
        self.assertEqual(console("mail"), "none")
        self.assertEqual(console('send a out - ""'), "5")

    def test_load_and_change(self):
        console = Console()
        console("load " + HOUSE)
        console('send ann l - "x"')
        self.assertEqual(console("change alias l to far"), "ok")
        self.assertEqual(self.told(console), ("alias l to far", "1"))
        self.assertEqual(console("step 1"), "2")
        self.assertEqual(console("change "), "ok")
        self.assertEqual(self.told(console), ("", "2"))
        self.assertEqual(console("load alias l to far"), "ok")
        self.assertEqual(self.told(console), ("alias l to far", "none"))
        self.assertEqual(console('send ann l - "x"'), "1")
        self.assertEqual(console("load "), "ok")
        self.assertEqual(self.told(console), ("", "none"))

    def test_count(self):
        console = Console()
        console("load list l members m,n\nlist m members n,zed\nmailbox n")
        self.assertEqual(console('count ann l - ""'), "4 2 1")
        self.assertEqual(console('count ann out m "x"'), "0 0 1")
        console("change list l members l,n\nmailbox n\nwhen is \"a\": drop")
        self.assertEqual(console('count ann l - ""'), "endless endless 0")
        self.assertEqual(console('count ann l - "a"'), "endless 0 0")
        self.assertEqual(console('count ann n - ""'), "1 1 0")
        console("change list l members l,out\nmailbox n\nwhen all (): reply \"a\", reply \"b\"")
        self.assertEqual(console('count ann l - ""'), "endless 0 endless")
        self.assertEqual(console('count bob n - ""'), "1 1 2")
        self.assertEqual(console("mail"), "none")

    def test_big_numbers(self):
        console = Console()
        names = [letter * 2 for letter in "abcdefghijklmnopqrst"]
        rule = "when all (): " + ", ".join(["forward X"] * 6)
        lines = []
        for name, target in zip(names, [*names[1:], "out"]):
            lines.extend(["mailbox " + name, *[rule.replace("X", target)] * 10])
        console("load " + "\n".join(lines))
        filed = sum(60 ** power for power in range(20))
        self.assertEqual(console('count a aa - ""'), f"{filed} {filed} {60 ** 20}")

    def test_hundreds_of_figures(self):
        house = counting(20)
        console = Console()
        console("load " + house_text(house))
        hops = 20 * 64
        self.assertEqual(console('count ann aa - "aaaaaa"'), f"{(4 ** hops - 1) // 3} 0 {4 ** hops}")
        self.assertEqual(console('growth ann aa - "aaaaaa"'), "ends")

    def test_growth(self):
        console = Console()
        console("load list a members a,b\nlist b members b,c\nlist c members c\nlist s members s,t\nalias t to s")
        for name, told in (("a", "2"), ("b", "1"), ("c", "0"), ("s", "storm"), ("t", "storm"), ("out", "ends")):
            self.assertEqual(console(f'growth ann {name} - ""'), told)

    def test_endless(self):
        console = Console()
        console('load mailbox box\nwhen marked auto: drop\nwhen contains "\\"": forward box')
        self.assertEqual(console("endless"), 'a box - "\\""')
        console("change mailbox box\nwhen all (marked b; marked a): forward box")
        self.assertEqual(console("endless"), 'a box a,b ""')
        console("change mailbox box")
        self.assertEqual(console("endless"), "none")

    def test_idle(self):
        console = Console()
        console("load mailbox b\nwhen all (): drop\nwhen all ():\nwhen any ():\nmailbox c\nwhen all (is \"a\"; is \"b\"): stop")
        self.assertEqual(console("idle"), "b 1, b 2, c 0")
        console("change mailbox c\nwhen any ():")
        self.assertEqual(console("idle"), "c 0")
        console("change mailbox c\nwhen all ():")
        self.assertEqual(console("idle"), "none")


class BadCommandsTest(Checks):
    def console(self):
        console = Console()
        console("load " + HOUSE)
        console('send ann l - "x"')
        return console

    def test_other_values(self):
        self.refuse(self.console(), *OTHER_VALUES, *OTHER_STRINGS, ["mail"], ("mail",), {"mail": 1}, b"mail")

    def test_words(self):
        self.refuse(
            self.console(), "Mail", "mail ", " mail", "mail 1", "mail\n", "mails", "endless ", "endless x", "idle ", "idle box", "house ",
            "house " + HOUSE, "none", "ok", "expected", "back 1", "filed", "left", "waiting", "loads " + HOUSE, "_house", "__call__",
            "mail mail", "\nmail", "mail  ", "idle\nidle",
        )

    def test_houses(self):
        self.refuse(
            self.console(), "load", "change", "load\n" + HOUSE, "load  ", "change  ", "load  " + HOUSE, "load " + HOUSE + "\n",
            "change " + HOUSE + " ", "load mailbox", "change mailbox A", "load \n", "load mailbox b\nmailbox a", "Load ", "load none",
            "change " + "\n".join(f"mailbox {letter}" for letter in "abcdefghijklmnopqrstu"), "load" + HOUSE, " load " + HOUSE,
            "change mailbox a\nwhen all ():" + "\nwhen all ():" * 10,
        )

    def test_messages(self):
        for word in ("send", "count", "growth"):
            self.refuse(
                self.console(), word, word + " ", word + " ann", word + ' ann box ""', word + "  ann box - \"\"", word + ' ann box - "" ',
                word + ' ann box - "%"', word + ' Ann box - ""', word + ' ann box b,a ""', word + "\nann box - \"\"", word + 'ann box - ""',
                word + " 1", word.title() + ' ann box - ""',
            )

    def test_numbers(self):
        for word in ("step", "run"):
            self.refuse(
                self.console(), word, word + " ", word + " x", word + " -1", word + " +1", word + " 01", word + " 00", word + " 1 ", word + "  1",
                word + " 1 1", word + " 1.0", word + " 1_0", word + " \u0661", word + " \u00b2", word + " one", word + " " + "1" * 61,
                word + " 0" + "1" * 59, word + "1", word + "\n1", word + " 1\n", word + " 1,2", word + " none",
            )

    def test_numbers_of_sixty_figures(self):
        console = self.console()
        for text in ("0", "2", "10", "9" * 60):
            with self.assertRaises(NothingWaiting) as caught:
                console("step " + text)
            self.assertEqual(caught.exception.number, int(text))
            self.assertIs(type(caught.exception.number), int)
        self.assertEqual(self.told(console), (HOUSE, "1"))
        self.assertEqual(console("run 0"), "0")
        self.assertEqual(console("mail"), "1")

    def test_two_consoles(self):
        one, other = self.console(), Console()
        self.assertEqual(other("mail"), "none")
        self.assertEqual(one("mail"), "1")


class DrawnTest(Checks):
    def test_against_a_work(self):
        for draw, house in cases(97, 80, draw_busy_house):
            console, work = Console(), Work(house)
            self.assertEqual(console("load " + house_text(house)), "ok")
            for _ in range(12):
                message = draw_message(draw, house)
                text = message_text(message)
                now = work.house_now()
                self.assertEqual(console("house"), house_text(now))
                filed, left = filings(now, message).values(), leavings(now, message).values()
                self.assertEqual(console("count " + text), f"{total([arrivals(now, message)])} {total(filed)} {total(left)}")
                power = growth(now, message)
                self.assertEqual(console("growth " + text), "ends" if power is None else str(power))
                self.assertEqual(console("send " + text), str(work.send(message)))
                self.assertEqual(console("run 3"), str(work.run(3)))
                if work.waiting() and draw.random() < 0.5:
                    number = draw.choice(work.waiting())[0]
                    numbers = work.step(number)
                    self.assertEqual(console(f"step {number}"), " ".join(map(str, numbers)) or "none")
                self.assertEqual(console("mail"), " ".join(str(number) for number, _ in work.waiting()) or "none")
                if draw.random() < 0.2:
                    other = draw_busy_house(draw)
                    work.change(other)
                    self.assertEqual(console("change " + house_text(other)), "ok")
                now = work.house_now()
                self.assertEqual(console("idle"), ", ".join(f"{name} {place}" for name, place in idle_rules(now)) or "none")
                least = first_endless(now)
                self.assertEqual(console("endless"), "none" if least is None else message_text(least))


if __name__ == "__main__":
    unittest.main()
