"""Points [1] and [2], over the whole program: the document's examples, and lists in the place of tuples."""

import doctest
import pathlib
import unittest

from mailrings import alike, arrivals, conditions, firing, kinds, machines, names, numbers, readers, rings, storms, texts, wishes
from mailrings.works import Work
from tests.samples import cases, draw_condition, draw_house, draw_message

DOCUMENT = pathlib.Path(__file__).resolve().parent.parent.parent / "shared" / "DOC.md"


def as_lists(value):
    """Return a value in which lists stand for all tuples."""
    if isinstance(value, tuple):
        return [as_lists(part) for part in value]
    return value


class ExamplesTest(unittest.TestCase):
    @unittest.skipUnless(DOCUMENT.exists(), "the document is not here")
    def test_the_examples_of_the_document(self):
        failed, tried = doctest.testfile(str(DOCUMENT), module_relative=False, encoding="ascii")
        self.assertEqual(failed, 0)
        self.assertGreater(tried, 50)


class SequencesTest(unittest.TestCase):
    def test_messages_and_conditions_as_lists(self):
        for draw, house in cases(98, 60):
            message, condition = draw_message(draw, house), draw_condition(draw)
            addresses, name = draw.sample([*house.addresses, "out"], 1), draw.choice([*house.addresses, "out"])
            wish = ((message[1],), condition, ("all",), 0, 1)
            other = draw_house(draw)
            for call in (
                lambda told, asked: conditions.holds(asked, told), lambda told, asked: conditions.tests_of(asked),
                lambda told, asked: conditions.marks_of(asked), lambda told, asked: conditions.names_of(asked),
                lambda told, asked: names.message_key(told), lambda told, asked: arrivals.after_hops(house, told, 2),
                lambda told, asked: kinds.Kinds(house).kind(told), lambda told, asked: rings.ring_from(house, told),
                lambda told, asked: numbers.arrivals(house, told), lambda told, asked: numbers.filings(house, told),
                lambda told, asked: numbers.leavings(house, told), lambda told, asked: numbers.measure(house, told, ("all",)),
                lambda told, asked: storms.growth(house, told), lambda told, asked: storms.count_after(house, told, 5),
                lambda told, asked: storms.storm_rings(house, told), lambda told, asked: wishes.wish_holds(house, wish, told),
                lambda told, asked: alike.differing(house, other, told),
                lambda told, asked: readers.readers(house, addresses, asked),
                lambda told, asked: readers.first_leak(house, addresses, asked, name),
                lambda told, asked: readers.way_to(house, told, name), lambda told, asked: texts.message_text(told),
                lambda told, asked: texts.condition_text(asked), lambda told, asked: texts.rule_text((asked, ())),
            ):
                self.assertEqual(call(as_lists(message), as_lists(condition)), call(message, condition))

    def test_other_sequences(self):
        for draw, house in cases(99, 30):
            tests = machines.house_tests(house)
            self.assertEqual(machines.Machine(tuple(tests)).subjects, machines.Machine(as_lists(tuple(tests))).subjects)
            self.assertEqual(
                readers.readers(house, house.addresses, ("all", ())), readers.readers(house, tuple(house.addresses), ["all", []]))
            told = [((name,), ("all", ()), ("all",), 1, 1) for name in house.addresses]
            self.assertEqual(wishes.broken_first(house, told), wishes.broken_first(house, tuple(told)))
            for name in house.addresses:
                if house.sort_of(name) == "mailbox":
                    self.assertEqual(firing.firings(house, name), firing.firings(house.copied(), name))


class HousesTest(unittest.TestCase):
    def test_nothing_that_is_asked_changes_a_house(self):
        for draw, house in cases(100, 60):
            other = draw_house(draw)
            before, after = house.copied(), other.copied()
            work = Work(house)
            work.send(draw_message(draw, house))
            work.run(5)
            work.is_safe_change(other)
            work.change(other)
            work.run(5)
            alike.first_different(house, other)
            alike.simplified(house)
            alike.simplified(other)
            readers.readers(house, house.addresses, ("all", ()))
            firing.idle_rules(house)
            self.assertEqual((house, other), (before, after))

    def test_houses_that_were_copied_changed_and_compared_go_their_own_way(self):
        for draw, house in cases(101, 60):
            message = draw_message(draw, house)
            told = numbers.filings(house, message), numbers.leavings(house, message), alike.spare_rules(house)
            work = Work(house)
            other = house.copied()
            for name in other.addresses[:2]:
                other.remove(name)
                other.add_mailbox(name, [(("all", ()), (("forward", "somewhere"), ("drop",)))])
            work.change(other)
            alike.first_different(house, other)
            self.assertEqual((numbers.filings(house, message), numbers.leavings(house, message), alike.spare_rules(house)), told)
            self.assertEqual(work.back(1), 1)
            self.assertEqual(work.house_now(), house)
            if message[1] in house.addresses[:2]:
                self.assertEqual(numbers.leavings(other, message), {"somewhere": 1})


if __name__ == "__main__":
    unittest.main()
