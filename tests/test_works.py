"""Points [8], [9], [10] and [12]: works.py."""

import random
import unittest

from mailrings.arrivals import arrive
from mailrings.errors import BadMessage, MailError, NothingWaiting
from mailrings.houses import House
from mailrings.numbers import arrivals
from mailrings.works import Work
from tests.samples import ALWAYS, cases, draw_busy_house, draw_house, draw_message
from tests.values import OTHER_STRINGS, OTHER_VALUES


def example():
    """Return the house of the document's example."""
    house = House()
    house.add_list("l", ("n", "zed"))
    house.add_mailbox("n")
    return house


def state(work):
    """Return all that a work tells."""
    return work.waiting(), work.filed(), work.left(), work.house_now()


class ExampleTest(unittest.TestCase):
    def test_the_example(self):
        work = Work(example())
        self.assertEqual(work.send(("ann", "l", "x", ())), 1)
        self.assertEqual(work.expected(), ({("n", "inbox"): 1}, {"zed": 1}))
        self.assertEqual(work.step(1), [2, 3])
        self.assertEqual([work.waiting(), work.expected()], [
            [(2, ("ann", "n", "x", ())), (3, ("ann", "zed", "x", ()))], ({("n", "inbox"): 1}, {"zed": 1})])

    def test_arguments_by_their_names(self):
        work = Work(house=example())
        self.assertEqual(work.send(message=("ann", "l", "x", ())), 1)
        self.assertEqual(work.step(number=1), [2, 3])
        self.assertEqual(work.run(most=1), 1)
        self.assertIs(work.is_safe_change(house=House()), True)
        self.assertIsNone(work.change(house=House()))
        self.assertEqual(work.back(many=1), 1)
        self.assertEqual(work.house_now(), example())


class StepsTest(unittest.TestCase):
    def test_without_mail(self):
        work = Work(House())
        self.assertEqual(state(work), ([], [], [], House()))
        self.assertEqual(work.expected(), ({}, {}))
        self.assertEqual(work.run(5), 0)
        self.assertEqual(work.back(5), 0)
        self.assertIs(work.is_safe_change(example()), True)

    def test_steps_in_any_sequence(self):
        work = Work(example())
        for number in (1, 2, 3):
            self.assertEqual(work.send(("ann", "l", str(number), ())), number)
        self.assertEqual(work.step(3), [4, 5])
        self.assertEqual(work.step(5), [])
        self.assertEqual(work.step(1), [6, 7])
        self.assertEqual([number for number, _ in work.waiting()], [2, 4, 6, 7])
        self.assertEqual(work.step(6), [])
        self.assertEqual(work.step(4), [])
        self.assertEqual(work.left(), [("ann", "zed", "3", ())])
        self.assertEqual(work.filed(), [("n", "inbox", ("ann", "n", "1", ())), ("n", "inbox", ("ann", "n", "3", ()))])
        self.assertEqual(work.send(("bob", "out", "", ())), 8)
        self.assertEqual(work.step(8), [])
        self.assertEqual(work.left(), [("ann", "zed", "3", ()), ("bob", "out", "", ())])
        self.assertEqual(work.waiting(), [(2, ("ann", "l", "2", ())), (7, ("ann", "zed", "1", ()))])

    def test_filed_messages_are_as_they_were_then(self):
        house = House()
        house.add_mailbox("box", [
            (ALWAYS, (("file", "a"), ("tag", "x"), ("file", "b"), ("mark", "m"), ("file", "a"), ("tag", "y"))),
            (("begins", "yx"), (("mark", "b"), ("file", "c"), ("stop",)))])
        house.add_mailbox("tagging", [(("marked", "old"), (("tag", "t"), ("mark", "m")))])
        work = Work(house)
        work.send(("ann", "box", "s", ("old",)))
        work.send(("ann", "tagging", "s", ("old",)))
        self.assertEqual(work.run(9), 2)
        self.assertEqual(work.filed(), [
            ("box", "a", ("ann", "box", "s", ("old",))), ("box", "b", ("ann", "box", "xs", ("old",))),
            ("box", "a", ("ann", "box", "xs", ("m", "old"))), ("box", "c", ("ann", "box", "yxs", ("b", "m", "old"))),
            ("tagging", "inbox", ("ann", "tagging", "ts", ("m", "old")))])

    def test_replies_and_drops(self):
        house = House()
        house.add_mailbox("box", [(("marked", "auto"), (("drop",),)), (ALWAYS, (("tag", "x"), ("reply", "re"), ("forward", "far")))])
        house.add_alias("far", "box")
        house.add_list("closed", ("box",), closed=True)
        work = Work(house)
        work.send(("ann", "box", "s", ()))
        self.assertEqual(work.step(1), [2, 3])
        self.assertEqual(work.waiting(), [(2, ("box", "ann", "rexs", ("auto",))), (3, ("ann", "far", "xs", ()))])
        self.assertEqual(work.step(3), [4])
        self.assertEqual(work.waiting()[1], (4, ("ann", "box", "xs", ())))
        work.send(("ann", "closed", "", ()))
        self.assertEqual(work.step(5), [])
        work.send(("ann", "box", "", ("auto",)))
        self.assertEqual(work.step(6), [])
        self.assertEqual(len(work.filed()), 1)

    def test_what_is_no_message(self):
        work = Work(example())
        work.send(("ann", "l", "x", ()))
        before = state(work)
        for value in (
            *OTHER_VALUES, *OTHER_STRINGS, ["ann", "l", "x", ()], ("ann", "l", "x", []), ("ann", "l", "x"),
            ("ann", "l", "x", ("b", "a")), ("ann", "l", "100%", ()), ("Ann", "l", "x", ()), ("ann", None, "x", ()),
            ("ann", "l", None, ()), ("ann", "l", "x", None), (("ann", "l", "x", ()),),
        ):
            with self.subTest(value):
                with self.assertRaises(BadMessage) as caught:
                    work.send(value)
                self.assertIs(caught.exception.value, value)
                self.assertIsInstance(caught.exception, MailError)
        self.assertEqual(state(work), before)
        self.assertEqual(work.back(9), 1)

    def test_what_is_not_on_its_way(self):
        work = Work(example())
        work.send(("ann", "l", "x", ()))
        work.send(("ann", "n", "x", ()))
        work.step(2)
        before = state(work)
        for value in (*OTHER_STRINGS, *[value for value in OTHER_VALUES if type(value) is not int], 0, -1, 2, 3, 10 ** 59, True, (1,), [1]):
            with self.subTest(value):
                with self.assertRaises(NothingWaiting) as caught:
                    work.step(value)
                self.assertIs(caught.exception.number, value)
                self.assertIsInstance(caught.exception, MailError)
        self.assertEqual(state(work), before)
        self.assertEqual(work.back(9), 3)

    def test_long_subjects_and_many_marks(self):
        work = Work(example())
        message = ("ann", "n", "x" * 5000, tuple("abcdefghijkl"))
        self.assertEqual(work.send(message), 1)
        work.run(1)
        self.assertEqual(work.filed(), [("n", "inbox", message)])


class RunTest(unittest.TestCase):
    def test_least_numbers_first(self):
        work = Work(example())
        for subject in "ab":
            work.send(("ann", "l", subject, ()))
        self.assertEqual(work.run(0), 0)
        self.assertEqual(len(work.waiting()), 2)
        self.assertEqual(work.run(3), 3)
        self.assertEqual(work.waiting(), [
            (4, ("ann", "zed", "a", ())), (5, ("ann", "n", "b", ())), (6, ("ann", "zed", "b", ()))])
        self.assertEqual(work.run(10 ** 59), 3)
        self.assertEqual(work.run(1), 0)
        self.assertEqual(work.left(), [("ann", "zed", "a", ()), ("ann", "zed", "b", ())])

    def test_endless_mail(self):
        house = House()
        house.add_mailbox("box", [(ALWAYS, (("tag", "x"), ("forward", "box")))])
        work = Work(house)
        work.send(("ann", "box", "", ()))
        self.assertEqual(work.run(500), 500)
        self.assertEqual(work.waiting(), [(501, ("ann", "box", "x" * 500, ()))])
        self.assertEqual(len(work.filed()), 500)
        self.assertEqual(work.back(499), 499)
        self.assertEqual(work.waiting(), [(2, ("ann", "box", "x", ()))])
        self.assertEqual(work.run(2), 2)
        self.assertEqual(work.waiting(), [(4, ("ann", "box", "xxx", ()))])

    def test_after_steps_out_of_sequence(self):
        work = Work(example())
        for subject in "abc":
            work.send(("ann", "l", subject, ()))
        work.step(2)
        work.back(1)
        self.assertEqual([number for number, _ in work.waiting()], [1, 2, 3])
        work.run(2)
        self.assertEqual([number for number, _ in work.waiting()], [3, 4, 5, 6, 7])
        self.assertEqual(work.waiting()[1], (4, ("ann", "n", "a", ())))


class ChangeTest(unittest.TestCase):
    def test_mail_on_its_way_and_another_house(self):
        work = Work(example())
        work.send(("ann", "l", "x", ()))
        work.send(("ann", "n", "x", ()))
        work.send(("ann", "far", "x", ()))
        work.step(2)
        other = House()
        other.add_mailbox("far", [(ALWAYS, (("file", "f"),))])
        work.change(other)
        self.assertEqual(work.house_now(), other)
        self.assertEqual([number for number, _ in work.waiting()], [1, 3])
        self.assertEqual(work.filed(), [("n", "inbox", ("ann", "n", "x", ()))])
        self.assertEqual(work.expected(), ({("n", "inbox"): 1, ("far", "f"): 1}, {"l": 1}))
        self.assertEqual(work.run(9), 2)
        self.assertEqual(work.left(), [("ann", "l", "x", ())])
        self.assertEqual(work.filed()[1:], [("far", "f", ("ann", "far", "x", ()))])

    def test_houses_go_their_own_way(self):
        house = example()
        work = Work(house)
        house.remove("n")
        self.assertEqual(work.house_now(), example())
        work.house_now().remove("l")
        self.assertEqual(work.house_now(), example())
        other = House()
        other.add_mailbox("zed")
        work.change(other)
        other.remove("zed")
        self.assertEqual(work.house_now().addresses, ["zed"])
        work.send(("ann", "zed", "", ()))
        work.run(1)
        self.assertEqual(len(work.filed()), 1)
        work.back(3)
        self.assertEqual(work.house_now(), example())

    def test_safe_changes(self):
        ring = House()
        ring.add_list("l", ("l",))
        ring.add_alias("n", "out")
        work = Work(example())
        self.assertIs(work.is_safe_change(ring), True)
        work.send(("ann", "n", "x", ()))
        self.assertIs(work.is_safe_change(ring), True)
        work.send(("ann", "out", "x", ()))
        self.assertIs(work.is_safe_change(ring), True)
        work.send(("ann", "l", "x", ()))
        self.assertIs(work.is_safe_change(ring), False)
        self.assertIs(work.is_safe_change(example()), True)
        before = state(work)
        work.is_safe_change(ring)
        self.assertEqual(state(work), before)
        # Whether the house as it is makes all come round does not matter.
        work.change(ring)
        self.assertIs(work.is_safe_change(ring), False)
        self.assertIs(work.is_safe_change(example()), True)
        work.step(3)
        self.assertIs(work.is_safe_change(ring), False)
        self.assertEqual(work.back(5), 5)
        self.assertIs(work.is_safe_change(ring), True)

    def test_a_change_that_depends_on_subjects(self):
        house = House()
        house.add_mailbox("n", [(("contains", "ab"), (("forward", "n"),))])
        work = Work(example())
        for subject, safe in (("", True), ("ba", True), ("xaby", False)):
            work.send(("ann", "l", subject, ()))
            self.assertIs(work.is_safe_change(house), True)
            work.run(1)
            self.assertIs(work.is_safe_change(house), safe)
            work.back(9)


class ExpectedTest(unittest.TestCase):
    def test_endless_numbers(self):
        house = House()
        house.add_list("ring", ("ring", "box"))
        house.add_mailbox("box")
        house.add_mailbox("other", [(ALWAYS, (("reply", "x"),))])
        work = Work(house)
        work.send(("ann", "ring", "", ()))
        work.send(("ann", "other", "", ()))
        work.send(("bob", "other", "", ()))
        work.send(("bob", "other", "", ()))
        told = ({("box", "inbox"): None, ("other", "inbox"): 3}, {"ann": 1, "bob": 2})
        self.assertEqual(work.expected(), told)
        work.run(30)
        self.assertEqual(work.expected(), told)
        work.back(31)
        self.assertEqual(work.expected(), ({("box", "inbox"): None, ("other", "inbox"): 2}, {"ann": 1, "bob": 1}))

    def test_drawn_works(self):
        over = 0
        for drawn in (draw_house, draw_busy_house):
            for draw, house in cases(81, 120, drawn):
                work = Work(house)
                for _ in range(draw.randint(1, 3)):
                    work.send(draw_message(draw, house))
                if draw.random() < 0.5:
                    work.run(draw.randint(0, 3))
                    work.change(drawn(draw))
                safe = all(arrivals(work.house_now(), message) is not None for _, message in work.waiting())
                self.assertIs(work.is_safe_change(work.house_now()), safe)
                told = work.expected()
                for _ in range(5):
                    if work.waiting():
                        work.step(draw.choice(work.waiting())[0])
                        self.assertEqual(work.expected(), told)
                if safe and work.run(3000) < 3000:
                    over += 1
                    filed, left = {}, {}
                    for mailbox, folder, _ in work.filed():
                        filed[(mailbox, folder)] = filed.get((mailbox, folder), 0) + 1
                    for message in work.left():
                        left[message[1]] = left.get(message[1], 0) + 1
                    self.assertEqual((filed, left), told)
        self.assertGreater(over, 100)


class BackTest(unittest.TestCase):
    def test_the_same_numbers_again(self):
        work = Work(example())
        work.send(("ann", "l", "x", ()))
        self.assertEqual(work.step(1), [2, 3])
        self.assertEqual(work.back(1), 1)
        self.assertEqual(work.waiting(), [(1, ("ann", "l", "x", ()))])
        self.assertEqual(work.send(("ann", "l", "y", ())), 2)
        self.assertEqual(work.step(1), [3, 4])
        self.assertEqual(work.back(2), 2)
        self.assertEqual(work.step(1), [2, 3])
        self.assertEqual(work.back(2), 2)
        self.assertEqual(state(work), ([], [], [], example()))
        self.assertEqual(work.send(("bob", "l", "", ())), 1)

    def test_numbers_of_deeds(self):
        work = Work(example())
        work.send(("ann", "l", "x", ()))
        work.run(2)
        self.assertEqual(work.back(0), 0)
        self.assertEqual(len(work.filed()), 1)
        self.assertEqual(work.back(2), 2)
        self.assertEqual(state(work), ([(1, ("ann", "l", "x", ()))], [], [], example()))
        work.run(10)
        work.change(House())
        self.assertEqual(work.back(100), 5)
        self.assertEqual(work.back(100), 0)
        self.assertEqual(work.house_now(), example())

    def test_going_back_is_no_deed_and_a_change_to_the_same_house_is_one(self):
        work = Work(example())
        work.send(("ann", "l", "x", ()))
        work.send(("ann", "l", "y", ()))
        work.back(1)
        self.assertEqual(work.back(9), 1)
        work.change(example())
        work.run(5)
        work.run(0)
        work.expected()
        work.is_safe_change(House())
        work.waiting()
        self.assertEqual(work.back(9), 1)

    def test_what_was_refused_is_no_deed(self):
        work = Work(example())
        work.send(("ann", "l", "x", ()))
        for refused in (lambda: work.send(None), lambda: work.step(9), lambda: work.step(True), lambda: work.send(["a"])):
            with self.assertRaises(MailError):
                refused()
        self.assertEqual(work.step(1), [2, 3])
        self.assertEqual(work.back(1), 1)
        self.assertEqual(work.waiting(), [(1, ("ann", "l", "x", ()))])

    def test_drawn_deeds(self):
        for draw, house in cases(82, 150):
            work = Work(house)
            states = [state(work)]
            for _ in range(draw.randint(1, 40)):
                self.deed(draw, work, states)
                self.assertEqual(state(work), states[-1])
            later = random.Random(5)
            numbers = [work.send(draw_message(later, house)) for _ in range(3)]
            self.assertEqual(work.back(3), 3)
            later = random.Random(5)
            self.assertEqual([work.send(draw_message(later, house)) for _ in range(3)], numbers)

    def deed(self, draw, work, states):
        """Do something and keep what there is behind each deed, or go back and forget it."""
        chance = draw.random()
        if chance < 0.3:
            work.send(draw_message(draw, states[0][3]))
        elif chance < 0.6 and work.waiting():
            number, message = draw.choice(work.waiting())
            house = work.house_now()
            sent = arrive(house, message)[1] if message[1] in house.addresses else []
            told = dict(work.waiting())
            numbers = work.step(number)
            after = dict(work.waiting())
            self.assertEqual([after.pop(one) for one in numbers], sent)
            told.pop(number)
            self.assertEqual(after, told)
        elif chance < 0.7:
            work.change(draw_house(draw))
        elif chance < 0.85:
            many = draw.randint(0, 6)
            undone = work.back(many)
            self.assertEqual(undone, min(many, len(states) - 1))
            del states[len(states) - undone:]
            return
        else:
            for _ in range(draw.randint(0, 3)):
                if work.run(1):
                    states.append(state(work))
            return
        states.append(state(work))


class NewThingsTest(unittest.TestCase):
    def test_lists_and_dicts_are_new(self):
        work = Work(example())
        work.send(("ann", "l", "x", ()))
        work.send(("ann", "l", "y", ()))
        work.step(1).clear()
        work.run(3)
        before = state(work), work.expected()
        for found in (work.waiting(), work.filed(), work.left(), *work.expected()):
            self.assertTrue(found)
            found.clear()
        self.assertEqual((state(work), work.expected()), before)

    def test_a_house_of_any_number_of_kinds(self):
        house = House()
        for name in ("box", "far"):
            house.add_mailbox(name, [
                (("any", tuple(("contains", one + other + name[0]) for other in "abcdefgh")), (("mark", one), ("forward", "far")))
                for one in "klmnopqrst"])
        house.set_rules("far", [(("marked", mark), (("reply", mark),)) for mark in "klmnopqrst"])
        work = Work(house)
        work.send(("ann", "box", "x kab laf", ()))
        self.assertEqual(work.step(1), [2])
        self.assertEqual(work.run(20), 2)
        self.assertEqual(work.left(), [("far", "ann", "kx kab laf", ("auto", "k"))])
        work.change(house)
        self.assertEqual(work.back(10), 5)


if __name__ == "__main__":
    unittest.main()
