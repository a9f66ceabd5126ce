"""Points [4], [10], [13] and [22]: rings.py."""

import unittest

from mailrings.arrivals import arrive
from mailrings.errors import Endless, MailError
from mailrings.houses import House
from mailrings.kinds import Kinds
from mailrings.names import message_key
from mailrings.rings import first_endless, is_rank_paper, is_ring, need_finite, rank_paper, ring_from
from tests.samples import ALWAYS, Course, cases, draw_busy_house, draw_message
from tests.values import OTHER_STRINGS, OTHER_VALUES


def example():
    """Return the house of the document's example."""
    house = House()
    house.add_mailbox("box", [(("marked", "auto"), (("drop",),)), (ALWAYS, (("reply", "re "),))])
    house.add_alias("a", "b")
    house.add_alias("b", "a")
    return house


def growing():
    """Return a house in which a message to the box comes round, longer each time."""
    house = House()
    house.add_mailbox("box", [(ALWAYS, (("tag", "12345678"), ("forward", "box"), ("forward", "out")))])
    return house


def endless_kinds(house):
    """Return the set of the kinds from which some walk goes on for more hops than there are kinds."""
    kinds = Kinds(house)
    sent = {kind: kinds.offspring(kind)[1] for kind in kinds.kinds}
    going = set(sent)
    while True:
        still = {kind for kind in going if any(one in going for one in sent[kind])}
        if still == going:
            return going
        going = still


class Checks(unittest.TestCase):
    def check_ring(self, house, message, ring):
        self.assertIsInstance(ring, tuple)
        walk, place = ring
        self.assertIsInstance(walk, list)
        self.assertIs(type(place), int)
        self.assertEqual(walk[0], message)
        self.assertTrue(0 <= place < len(walk) - 1)
        for before, one in zip(walk, walk[1:]):
            self.assertIn(one, arrive(house, before)[1])
        kinds = Kinds(house)
        self.assertEqual(kinds.kind(walk[-1]), kinds.kind(walk[place]))
        self.assertIs(is_ring(house, ring), True)


class FirstEndlessTest(Checks):
    def test_the_example(self):
        house = example()
        self.assertEqual(first_endless(house), ("a", "a", "", ()))
        self.assertIs(ring_from(house, ("box", "box", "", ())), None)

    def test_none(self):
        house = House()
        self.assertIsNone(first_endless(house))
        house.add_mailbox("box", [(ALWAYS, (("forward", "out"), ("reply", "re")))])
        house.add_list("list", ("box", "out"))
        house.set_rules("box", [(("marked", "auto"), ()), (("not", ("marked", "auto")), (("reply", "re"),))])
        self.assertIsNone(first_endless(house=house))

    def test_the_least_of_all_messages(self):
        house = House()
        house.add_mailbox("box", [
            (("all", (("begins", "ab"), ("marked", "m"), ("from", ("kim", "zed")))), (("forward", "box"),))])
        self.assertEqual(first_endless(house), ("kim", "box", "ab", ("m",)))
        house.add_mailbox("ann", [(("all", (("ends", "b"), ("marked", "k"), ("marked", "m"))), (("forward", "ann"),))])
        self.assertEqual(first_endless(house), ("a", "ann", "b", ("k", "m")))
        house.add_mailbox("zed", [(("all", (("is", "b"), ("marked", "k"))), (("forward", "zed"),))])
        self.assertEqual(first_endless(house), ("a", "zed", "b", ("k",)))
        house.add_mailbox("yak", [(("all", (("is", "b"), ("marked", "j"))), (("forward", "zed"), ("mark", "k"), ("forward", "yak")))])
        self.assertEqual(first_endless(house), ("a", "yak", "b", ("j",)))
        house.add_mailbox("y", [(("contains", "A"), (("forward", "y"),))])
        self.assertEqual(first_endless(house), ("a", "y", "A", ()))
        house.add_mailbox("x", [(("is", ""), (("tag", "A"), ("forward", "y")))])
        self.assertEqual(first_endless(house), ("a", "x", "", ()))

    def test_the_strange_sender(self):
        house = House()
        house.add_alias("a", "out")
        house.add_mailbox("box", [(("not", ("from", ("box",))), (("forward", "box"),))])
        self.assertEqual(first_endless(house), ("a", "box", "", ()))
        house.set_rules("box", [(("not", ("from", ("a", "box", "out"))), (("forward", "box"),))])
        self.assertEqual(first_endless(house), ("aa", "box", "", ()))

    def test_replies_to_a_stranger_leave(self):
        house = House()
        house.add_mailbox("box", [(ALWAYS, (("reply", "re"),))])
        house.add_mailbox("cat", [(ALWAYS, (("reply", "re"),))])
        self.assertEqual(first_endless(house), ("box", "box", "", ()))
        self.assertIsNone(ring_from(house, ("ann", "box", "", ())))
        self.check_ring(house, ("cat", "box", "", ()), ring_from(house, ("cat", "box", "", ())))

    def test_along_a_closed_list(self):
        house = House()
        house.add_list("list", ("list", "zed"), closed=True)
        self.assertEqual(first_endless(house), ("list", "list", "", ()))
        self.assertIsNone(ring_from(house, ("ann", "list", "", ())))
        for sender in ("list", "zed"):
            self.check_ring(house, (sender, "list", "x", ()), ring_from(house, (sender, "list", "x", ())))
        house.add_alias("post", "list")
        house.set_list("list", ("post", "zed"), closed=True)
        self.assertEqual(first_endless(house), ("post", "list", "", ()))

    def test_a_tag_ends_it(self):
        house = House()
        house.add_list("list", ("box",), tag="[t]")
        house.add_mailbox("box", [(("not", ("contains", "[t]")), (("forward", "list"),))])
        self.assertIsNone(first_endless(house))
        house.set_list("list", ("box",))
        self.assertEqual(first_endless(house), ("a", "box", "", ()))

    def test_drawn(self):
        for draw, house in [*cases(11, 150), *cases(11, 150, draw_busy_house)]:
            endless = endless_kinds(house)
            first = first_endless(house)
            self.assertEqual(first, min(endless, key=message_key) if endless else None)
            for _ in range(4):
                message = draw_message(draw, house)
                if message[1] in house.addresses and Kinds(house).kind(message) in endless:
                    self.assertLessEqual(message_key(first), message_key(message))
                    self.assertFalse(Course(house, message).is_over)
                    self.check_ring(house, message, ring_from(house, message))
                else:
                    self.assertIsNone(ring_from(house, message))
                    self.assertTrue(Course(house, message, 400, 10 ** 4).is_over)

    def test_asked_anew(self):
        house = example()
        self.assertIsNotNone(first_endless(house))
        house.remove("b")
        self.assertIsNone(first_endless(house))
        self.assertIsNone(ring_from(house, ("x", "a", "", ())))
        self.assertIsNotNone(rank_paper(house))
        house.add_list("b", ("a",))
        self.assertEqual(first_endless(house), ("a", "a", "", ()))
        self.assertIsNone(rank_paper(house))
        house.set_list("b", ())
        self.assertIsNone(first_endless(house))
        house.set_rules("box", [(ALWAYS, (("forward", "box"),))])
        self.assertEqual(first_endless(house), ("a", "box", "", ()))
        house.set_rules("box", [])
        house.add_alias("c", "c")
        self.assertEqual(first_endless(house), ("a", "c", "", ()))
        house.remove("c")
        self.assertIsNone(need_finite(house))


class RingFromTest(Checks):
    def test_outside(self):
        for house in (House(), example()):
            self.assertIsNone(ring_from(house, ("ann", "out", "", ())))

    def test_the_very_message_begins_it(self):
        house = example()
        for message in (("zed", "a", "x" * 1000, tuple("abcdefgh")), ("a", "b", "", ()), ("box", "b", "q", ("auto",))):
            self.check_ring(house, message, ring_from(house=house, message=message))

    def test_a_way_before_it(self):
        house = growing()
        house.add_alias("one", "two")
        house.add_list("two", ("out", "three"), mark="m")
        house.add_mailbox("three", [(ALWAYS, (("reply", "r"), ("forward", "box"), ("drop",)))])
        message = ("zed", "one", "x", ())
        ring = ring_from(house, message)
        self.check_ring(house, message, ring)
        self.assertEqual(ring[0][3], ("zed", "box", "x", ("m",)))

    def test_a_change_of_it_changes_nothing(self):
        house = growing()
        message = ("zed", "box", "", ())
        ring = ring_from(house, message)
        before = (list(ring[0]), ring[1])
        ring[0].clear()
        self.assertEqual(ring_from(house, message), before)

    def test_a_long_one(self):
        house = House()
        names = [one + other for one in "abcd" for other in "abcde"]
        for name, target in zip(names, names[1:] + names[:1]):
            house.add_mailbox(name, [(ALWAYS, (("tag", "12345678"), ("tag", "12345678"), ("forward", target)))])
        message = ("zed", "aa", "x" * 1000, ())
        ring = ring_from(house, message)
        self.check_ring(house, message, ring)
        self.assertGreater(len(ring[0][-1][2]), 1300)


class IsRingTest(Checks):
    def walk(self, many):
        """Return the messages that come round in the growing house."""
        return [("zed", "box", "12345678" * number, ()) for number in range(many)]

    def test_any_earlier_place_of_the_kind(self):
        house = growing()
        walk = self.walk(6)
        for place in range(0, 5):
            self.assertIs(is_ring(house, (walk, place)), True)
        self.assertIs(is_ring(house=house, value=(self.walk(2), 0)), True)

    def test_wrong_places(self):
        house = growing()
        for place in (
            5, 6, 7, -1, -5, -6, True, False, None, "0", "", 0.0, [0], (0,), {}, [], (), 10 ** 59, -(10 ** 59), b"",
        ):
            with self.subTest(place):
                self.assertIs(is_ring(house, (self.walk(6), place)), False)

    def test_subjects_and_marks_without_a_bound(self):
        house = growing()
        walk = self.walk(2000)
        self.assertIs(is_ring(house, (walk, 17)), True)
        self.assertIs(is_ring(house, (walk[900:], 0)), True)
        self.assertIs(is_ring(house, (walk[:-1] + [("zed", "box", walk[-1][2][1:], ())], 17)), False)
        marks = tuple(sorted(one + other for one in "abcdef" for other in "abcdef"))
        self.assertIs(is_ring(house, ([("zed", "box", "x", marks), ("zed", "box", "12345678x", marks)], 0)), True)

    def test_marks_that_are_added_on_the_way(self):
        house = House()
        names = [letter * 2 for letter in "abcdefghijkl"]
        for name, target in zip(names, names[1:] + names[:1]):
            house.add_list(name, (target,), mark=name)
        message = ("zed", "aa", "", tuple(letter for letter in "mnopqrst"))
        ring = ring_from(house, message)
        self.check_ring(house, message, ring)
        walk = list(ring[0])
        for _ in range(12):
            walk.append(arrive(house, walk[-1])[1][0])
        self.assertEqual(len(walk[-1][3]), 20)
        self.assertIs(is_ring(house, (walk, len(walk) - 13)), True)

    def test_the_kinds_must_be_equal(self):
        house = House()
        house.add_list("list", ("list", "other"), tag="t")
        house.add_alias("other", "list")
        first, second = ("zed", "list", "", ()), ("zed", "list", "t", ())
        self.assertIs(is_ring(house, ([first, second], 0)), False)
        self.assertIs(is_ring(house, ([first, second, second], 0)), False)
        self.assertIs(is_ring(house, ([first, second, second], 1)), True)
        self.assertIs(is_ring(house, ([second, second, second], 0)), True)
        self.assertIs(is_ring(house, ([second, ("zed", "other", "t", ()), second], 0)), True)
        self.assertIs(is_ring(house, ([second, ("zed", "other", "t", ()), second], 1)), False)
        self.assertIs(is_ring(house, ([first, ("zed", "other", "t", ()), second, second], 2)), True)

    def test_each_is_of_the_offspring_of_the_one_before(self):
        house = growing()
        walk = self.walk(4)
        for wrong in (
            walk[::-1], walk[:1] * 4, walk[:2] + walk[3:], [*walk, walk[0]], [walk[1], walk[0], walk[1]],
            [*walk, ("zed", "out", "12345678" * 4, ())], [*walk[:3], ("bob", "box", walk[3][2], ())],
            [*walk[:3], ("zed", "box", walk[3][2], ("m",))], [*walk[:3], ("zed", "box", walk[3][2] + "x", ())],
            [("zed", "out", "", ()), ("zed", "out", "", ())], [("zed", "out", "", ())] * 3, walk[:1], [],
        ):
            with self.subTest(wrong):
                self.assertIs(is_ring(house, (wrong, 0)), False)

    def test_wrong_parts(self):
        house = growing()
        walk = self.walk(4)
        for value in (
            tuple(walk), {}, {0: walk[0]}, None, "", 0, [list(one) for one in walk], [*walk[:3], list(walk[3])],
            [*walk[:3], ("zed", "box", walk[3][2], [])], [*walk[:3], walk[3][:3]], [*walk[:3], walk[3] + ((),)],
            [*walk[:3], None], [*walk[:3], walk], [None] * 4, [[], []], [{}, {}], ["box", "box"],
            [("zed", ["box"], "", ()), walk[1]], [("zed", "box", None, ()), walk[1]], [(True, "box", "", ()), walk[1]],
        ):
            with self.subTest(value):
                self.assertIs(is_ring(house, (value, 0)), False)

    def test_other_values(self):
        house = growing()
        walk = self.walk(4)
        for value in (
            *OTHER_VALUES, *OTHER_STRINGS, walk, [walk, 0], (walk,), (walk, 0, 0), (0, walk), ((walk, 0),), (walk, walk),
            {"walk": walk, "place": 0}, (None, 0), ([], 0), ([], -1), ([None], 0), ((), 0), ({}, 0),
        ):
            with self.subTest(value):
                self.assertIs(is_ring(house, value), False)
                self.assertIs(is_ring(House(), value), False)

    def test_of_another_house(self):
        house = example()
        ring = ring_from(house, ("x", "a", "", ()))
        self.assertIs(is_ring(growing(), ring), False)
        self.assertIs(is_ring(House(), ring), False)
        house.remove("b")
        self.assertIs(is_ring(house, ring), False)

    def test_what_is_judged_stays(self):
        walk = self.walk(4)
        self.assertIs(is_ring(growing(), (walk, 1)), True)
        self.assertEqual(walk, self.walk(4))


class NeedFiniteTest(Checks):
    def test_finite(self):
        house = House()
        self.assertIsNone(need_finite(house))
        house.add_mailbox("box")
        self.assertIsNone(need_finite(house=house))

    def test_endless(self):
        for house in (example(), growing(), *[house for _, house in cases(12, 60)]):
            first = first_endless(house)
            if first is None:
                self.assertIsNone(need_finite(house))
                continue
            with self.assertRaises(Endless) as caught:
                need_finite(house)
            self.assertIsInstance(caught.exception, MailError)
            self.check_ring(house, first, caught.exception.ring)


class RankPaperTest(unittest.TestCase):
    def house(self):
        house = House()
        house.add_list("list", ("box", "post"))
        house.add_alias("post", "box")
        house.add_mailbox("box", [(("marked", "m"), (("forward", "out"),))])
        return house

    def test_no_addresses(self):
        self.assertEqual(rank_paper(House()), {})
        self.assertIs(is_rank_paper(House(), {}), True)
        self.assertIs(is_rank_paper(House(), {("a", "box", "", ()): 0}), False)

    def test_a_paper(self):
        house = self.house()
        paper = rank_paper(house=house)
        self.assertEqual(sorted(paper, key=message_key), Kinds(house).kinds)
        self.assertIs(is_rank_paper(house=house, value=paper), True)
        for name, least in (("box", 0), ("post", 1), ("list", 2)):
            ranks = [rank for kind, rank in paper.items() if kind[1] == name]
            self.assertTrue(all(type(rank) is int and rank >= least for rank in ranks))
        paper.clear()
        self.assertIs(is_rank_paper(house, rank_paper(house)), True)

    def test_other_papers(self):
        house = self.house()
        ranks = {"box": 0, "post": 1, "list": 2}
        paper = {kind: ranks[kind[1]] for kind in Kinds(house).kinds}
        self.assertIs(is_rank_paper(house, paper), True)
        self.assertIs(is_rank_paper(house, dict(reversed(list(paper.items())))), True)
        self.assertIs(is_rank_paper(house, {kind: rank * 10 ** 40 + 7 for kind, rank in paper.items()}), True)
        self.assertIs(is_rank_paper(house, {kind: rank + number for number, (kind, rank) in enumerate(sorted(
            paper.items(), key=lambda item: item[1]))}), True)
        for name, rank in (("post", 0), ("list", 1), ("list", 0), ("box", 1), ("post", 2)):
            changed = {**ranks, name: rank}
            with self.subTest(changed):
                self.assertIs(is_rank_paper(house, {kind: changed[kind[1]] for kind in paper}), False)
        for kind in paper:
            self.assertIs(is_rank_paper(house, {**paper, kind: 9}), kind[1] == "list")

    def test_a_key_more_or_less(self):
        house = self.house()
        paper = rank_paper(house)
        for kind in paper:
            less = {other: rank for other, rank in paper.items() if other != kind}
            self.assertIs(is_rank_paper(house, less), False)
            for key in (("q", *kind[1:]), (*kind[:3], ("z",)), (*kind[:2], "x", kind[3]), kind[1], None, 0, (), kind[:3]):
                self.assertIs(is_rank_paper(house, {**less, key: paper[kind]}), False)
                self.assertIs(is_rank_paper(house, {**paper, key: 5}), False)

    def test_wrong_ranks(self):
        house = self.house()
        paper = rank_paper(house)
        first = Kinds(house).kinds[0]
        for rank in (-1, True, False, None, "0", "", 0.0, [0], (0,), {}, [], -(10 ** 59), b"", first):
            with self.subTest(rank):
                self.assertIs(is_rank_paper(house, {kind: rank for kind in paper}), False)
                self.assertIs(is_rank_paper(house, {**paper, first: rank}), False)

    def test_other_values(self):
        house = self.house()
        for value in (*OTHER_VALUES, *OTHER_STRINGS, list(rank_paper(house)), list(rank_paper(house).items())):
            with self.subTest(value):
                self.assertIs(is_rank_paper(house, value), False)
                self.assertIs(is_rank_paper(House(), value), value == {})

    def test_endless_houses_have_none(self):
        for house in (example(), growing()):
            self.assertIsNone(rank_paper(house))
            kinds = Kinds(house).kinds
            for rank in (0, 1):
                self.assertIs(is_rank_paper(house, {kind: rank for kind in kinds}), False)
            self.assertIs(is_rank_paper(house, {kind: rank for rank, kind in enumerate(kinds)}), False)

    def test_drawn(self):
        for _, house in cases(13, 200):
            paper = rank_paper(house)
            self.assertEqual(paper is None, first_endless(house) is not None)
            if paper is not None:
                self.assertIs(is_rank_paper(house, paper), True)
                kinds = Kinds(house)
                self.assertEqual(set(paper), set(kinds.kinds))
                for kind in paper:
                    self.assertTrue(all(paper[kind] > paper[one] for one in kinds.offspring(kind)[1]))

    def test_twenty_thousand_kinds(self):
        house = House()
        names = list("abcdefghijklmnopqrst")
        for name, target in zip(names, names[1:]):
            house.add_list(name, (target,), tag="ab" if name in "ae" else "")
        house.add_mailbox("t", [(("marked", mark), ()) for mark in ("u", "v", "w")] + [(("begins", "b"), ())])
        paper = rank_paper(house)
        self.assertGreater(len(paper), 10000)
        self.assertIs(is_rank_paper(house, paper), True)
        self.assertIsNone(first_endless(house))
        house.set_rules("t", [(("all", (("marked", "w"), ("begins", "b"))), (("forward", "a"),))])
        # Without the tag in it, the subject gets it in front, and begins with a b no more.
        self.assertEqual(first_endless(house), ("a", "a", "bab", ("w",)))
        self.assertIs(is_rank_paper(house, paper), False)


if __name__ == "__main__":
    unittest.main()
