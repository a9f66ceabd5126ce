"""Points [4], [11] and [12]: kinds.py."""

import itertools
import unittest

from mailrings.arrivals import arrive
from mailrings.houses import House
from mailrings.kinds import Kinds, asked_marks, known_names
from mailrings.machines import Machine, house_tests
from mailrings.names import message_key
from tests.samples import ALWAYS, cases, draw_message


def sample():
    """Return a house with each thing of which something is known or asked."""
    house = House()
    house.add_mailbox("box", [
        (("any", (("from", ("bob", "eve")), ("not", ("marked", "vip")))), (("forward", "far"), ("mark", "seen"), ("file", "old"))),
        (("begins", "re"), (("reply", "re"), ("tag", "x"), ("forward", "post"), ("stop",))),
        (("marked", "auto"), (("drop",),)),
    ])
    house.add_list("list", ("zed", "box", "list"), tag="[l]", mark="many", closed=True)
    house.add_alias("post", "out")
    return house


class NamesTest(unittest.TestCase):
    def test_known_names(self):
        self.assertEqual(known_names(House()), [])
        self.assertEqual(known_names(sample()), ["bob", "box", "eve", "far", "list", "out", "post", "zed"])

    def test_asked_marks(self):
        self.assertEqual(asked_marks(House()), [])
        self.assertEqual(asked_marks(sample()), ["auto", "vip"])

    def test_lists_are_new_and_the_house_is_asked_anew(self):
        house = sample()
        known_names(house=house).clear()
        asked_marks(house=house).clear()
        self.assertEqual(len(known_names(house)), 8)
        self.assertEqual(len(asked_marks(house)), 2)
        house.set_rules("box", [])
        self.assertEqual(known_names(house), ["box", "list", "out", "post", "zed"])
        self.assertEqual(asked_marks(house), [])


class KindsTest(unittest.TestCase):
    def test_the_example(self):
        house = House()
        house.add_mailbox("box", [(("begins", "a"), (("forward", "zed"),))])
        kinds = Kinds(house)
        self.assertEqual(
            [len(kinds.kinds), kinds.kind(("bob", "box", "any", ("x",))), kinds.offspring(("a", "box", "a", ()))],
            [6, ("a", "box", "a", ()), (["inbox"], [], ["zed"])])

    def test_a_house_without_addresses(self):
        self.assertEqual(Kinds(House()).kinds, [])
        self.assertEqual(Kinds(House(), tests=[("is", "a")], names=["b"], marks=["c"]).kinds, [])

    def test_one_mailbox(self):
        house = House()
        house.add_mailbox("box")
        self.assertEqual(Kinds(house).kinds, [("a", "box", "", ()), ("box", "box", "", ())])

    def test_the_strange_name(self):
        house = House()
        house.add_mailbox("a")
        house.add_alias("aa", "aaa")
        kinds = Kinds(house)
        self.assertEqual([kind[0] for kind in kinds.kinds][:4], ["a", "aa", "aaa", "aaaa"])
        for sender, told in (("a", "a"), ("aaa", "aaa"), ("aaaa", "aaaa"), ("aaaaa", "aaaa"), ("zed", "aaaa"), ("b", "aaaa")):
            self.assertEqual(kinds.kind((sender, "a", "x", ("m",))), (told, "a", "", ()))

    def test_all_kinds_in_order(self):
        for house in [sample(), *[house for _, house in cases(2, 60)]]:
            senders = known_names(house)
            senders.append(min(set(["a", "aa"]) - set(senders)))
            marks = asked_marks(house)
            sets = [some for many in range(len(marks) + 1) for some in itertools.combinations(marks, many)]
            subjects = Machine(house_tests(house)).subjects
            expected = list(itertools.product(senders, house.addresses, subjects, sets))
            kinds = Kinds(house)
            self.assertEqual(kinds.kinds, sorted(expected, key=message_key))
            for kind in kinds.kinds[::7]:
                self.assertEqual(kinds.kind(kind), kind)

    def test_the_kind_of_a_message(self):
        kinds = Kinds(sample())
        for message, kind in (
            (("bob", "box", "re: x", ("auto", "b", "vip")), ("bob", "box", "re", ("auto", "vip"))),
            (("ann", "list", "see [l] e", ("z",)), ("a", "list", "[l]", ())),
            (("zed", "post", "e" + "q" * 999, ()), ("zed", "post", "e", ())),
            (("zed", "post", "q" * 1000, tuple("abcdefgh")), ("zed", "post", "", ())),
            (["zed", "post", "q", ["auto"]], ("zed", "post", "", ("auto",))),
        ):
            with self.subTest(message):
                self.assertEqual(kinds.kind(message=message), kind)
                self.assertIn(kind, kinds.kinds)

    def test_a_kind_is_the_least_message_of_its_kind(self):
        for draw, house in cases(4, 150):
            kinds = Kinds(house)
            known = set(kinds.kinds)
            for _ in range(5):
                message = draw_message(draw, house)
                if message[1] in house.addresses:
                    kind = kinds.kind(message)
                    self.assertIn(kind, known)
                    self.assertLessEqual(message_key(kind), message_key(message))

    def test_offspring(self):
        kinds = Kinds(sample())
        for kind, filed, sent, left in (
            (("a", "box", "re", ()), ["old"], [("a", "post", "", ())], ["far", "a"]),
            (("box", "box", "re", ("auto",)), ["old"], [("box", "box", "re", ("auto",)), ("box", "post", "", ("auto",))], ["far"]),
            (("zed", "box", "re", ("vip",)), ["inbox"], [("zed", "post", "", ("vip",))], ["zed"]),
            (("zed", "box", "", ("auto", "vip")), [], [], []),
            (("zed", "list", "e", ()), [], [("zed", "box", "[l]", ()), ("zed", "list", "[l]", ())], ["zed"]),
            (("a", "list", "e", ()), [], [], []),
            (("a", "post", "e", ("vip",)), [], [], ["out"]),
        ):
            with self.subTest(kind):
                self.assertEqual(kinds.offspring(kind=kind), (filed, sent, left))

    def test_offspring_are_those_of_the_messages(self):
        for draw, house in cases(5, 250):
            kinds = Kinds(house)
            for _ in range(6):
                message = draw_message(draw, house)
                if message[1] in house.addresses:
                    filed, sent = arrive(house, message)
                    arriving = [kinds.kind(one) for one in sent if one[1] in house.addresses]
                    leaving = [one[1] for one in sent if one[1] not in house.addresses]
                    # A sender who is no known name is told by another one.
                    told = kinds.kind(message)[0]
                    leaving = [told if name == message[0] else name for name in leaving]
                    with self.subTest(message):
                        self.assertEqual(kinds.offspring(kinds.kind(message)), (filed, arriving, leaving))


class FurtherTest(unittest.TestCase):
    def test_finer_kinds(self):
        house = House()
        house.add_mailbox("box", [(("begins", "a"), (("forward", "zed"),)), (("marked", "m"), ())])
        kinds = Kinds(house, tests=[("is", "x"), ("begins", "a"), ("is", "x")], names=["a", "zed", "a"], marks=["k", "m", "k"])
        senders, subjects = ["a", "aa", "box", "zed"], ["", " ", "a", "x"]
        sets = [(), ("k",), ("m",), ("k", "m")]
        self.assertEqual(kinds.kinds, [
            (sender, "box", subject, marks) for subject in subjects for marks in sets for sender in senders])
        self.assertEqual(kinds.kind(("bob", "box", "bx", ("j", "k"))), ("aa", "box", " ", ("k",)))
        self.assertEqual(kinds.kind(("a", "box", "x", ())), ("a", "box", "x", ()))
        self.assertEqual(kinds.offspring(("a", "box", "a", ("k",))), (["inbox"], [], ["zed"]))

    def test_what_the_house_has_already_changes_nothing(self):
        for _, house in cases(6, 30):
            kinds = Kinds(house, tests=house_tests(house)[::-1], names=known_names(house), marks=tuple(asked_marks(house)))
            self.assertEqual(kinds.kinds, Kinds(house).kinds)

    def test_more_only_by_name(self):
        self.assertRaises(TypeError, Kinds, House(), [])
        self.assertRaises(TypeError, Kinds)

    def test_a_refinement(self):
        for draw, house in cases(8, 40):
            fine = Kinds(house, tests=[("contains", "c"), ("ends", "b")], names=["bob", "kim"], marks=["q", "x"])
            coarse = Kinds(house)
            known = set(fine.kinds)
            for _ in range(6):
                message = draw_message(draw, house)
                if message[1] in house.addresses:
                    kind = fine.kind(message)
                    self.assertIn(kind, known)
                    self.assertEqual(coarse.kind(kind), coarse.kind(message))
                    filed, sent, left = fine.offspring(kind)
                    self.assertEqual(
                        (filed, [coarse.kind(one) for one in sent], len(left)),
                        (*coarse.offspring(coarse.kind(message))[:2], len(coarse.offspring(coarse.kind(message))[2])))


class NewThingsTest(unittest.TestCase):
    def test_of_the_house_as_it_was(self):
        house = sample()
        kinds = Kinds(house=house)
        before = kinds.kinds
        message = ("a", "list", "e", ())
        self.assertEqual(kinds.offspring(("zed", "box", "re", ("vip",))), (["inbox"], [("zed", "post", "", ("vip",))], ["zed"]))
        house.remove("post")
        house.set_rules("box", [(ALWAYS, (("file", "new"),))])
        house.add_mailbox("new")
        self.assertEqual(kinds.kinds, before)
        self.assertEqual(kinds.kind(("kim", "list", "e", ("vip",))), ("a", "list", "e", ("vip",)))
        self.assertEqual(kinds.offspring(message), ([], [], []))
        self.assertEqual(kinds.offspring(("zed", "box", "re", ("vip",))), (["inbox"], [("zed", "post", "", ("vip",))], ["zed"]))
        self.assertEqual(kinds.offspring(("zed", "box", "", ("vip",))), (["inbox"], [], []))

    def test_lists_are_new(self):
        kinds = Kinds(sample())
        before = kinds.kinds
        kinds.kinds.clear()
        self.assertEqual(kinds.kinds, before)
        for kind in (("box", "box", "re", ("auto",)), ("zed", "list", "e", ()), ("a", "post", "e", ("vip",))):
            filed, sent, left = kinds.offspring(kind)
            expected = (list(filed), list(sent), list(left))
            for one in (filed, sent, left):
                one.append("more")
            self.assertEqual(kinds.offspring(kind), expected)
            self.assertIsInstance(kinds.offspring(kind), tuple)

    def test_what_is_passed_in_stays(self):
        house = sample()
        tests, names, marks = [("is", "x")], ["kim", "bob"], ["q", "auto"]
        kinds = Kinds(house, tests=tests, names=names, marks=marks)
        many = len(kinds.kinds)
        self.assertEqual((tests, names, marks), ([("is", "x")], ["kim", "bob"], ["q", "auto"]))
        self.assertEqual(house, sample())
        tests.append(("is", "y"))
        names.append("jim")
        marks.append("r")
        self.assertEqual(len(kinds.kinds), many)


class ManyKindsTest(unittest.TestCase):
    def test_twenty_thousand(self):
        house = House()
        names = list("abcdefghijklmnopqrst")
        for name, target in zip(names, names[1:]):
            house.add_list(name, (target,), tag="ab" if name in "ae" else "")
        house.add_mailbox("t", [(("marked", mark), ()) for mark in ("u", "v", "w")] + [(("begins", "b"), ())])
        kinds = Kinds(house)
        self.assertEqual(len(kinds.kinds), 21 * 20 * 8 * len(Machine(house_tests(house)).subjects))
        self.assertGreater(len(kinds.kinds), 10000)
        self.assertEqual(kinds.kinds, sorted(kinds.kinds, key=message_key))


if __name__ == "__main__":
    unittest.main()
