"""Houses and messages for tests, drawn with a seed, and what becomes of a message, hop by hop."""

import itertools
import random

from mailrings.arrivals import arrive
from mailrings.houses import House
from mailrings.kinds import asked_marks, known_names
from mailrings.names import message_key

ALWAYS = ("all", ())
NEVER = ("any", ())
NAMES = ["l", "m", "n", "o", "p", "q"]


def draw_text(draw, most=2, signs="ab"):
    """Return a text of at most so many signs."""
    return "".join(draw.choice(signs) for _ in range(draw.randint(1, most)))


def draw_tests(draw):
    """Return a list of tests."""
    words = ("contains", "begins", "ends", "is")
    tests = [(draw.choice(words), draw_text(draw, draw.choice([2, 3, 4]))) for _ in range(draw.randint(0, 4))]
    return tests + [("is", "")] if draw.random() < 0.2 else tests


def draw_condition(draw, deep=2):
    """Return a condition."""
    if deep > 0 and draw.random() < 0.3:
        word = draw.choice(["not", "all", "any"])
        if word == "not":
            return (word, draw_condition(draw, deep - 1))
        return (word, tuple(draw_condition(draw, deep - 1) for _ in range(draw.randint(0, 3))))
    word = draw.choice(["from", "contains", "begins", "ends", "is", "marked"])
    if word == "from":
        return (word, tuple(sorted(draw.sample(["ann", "m", "n", "o", "zed"], draw.randint(1, 2)))))
    if word == "marked":
        return (word, draw.choice(["auto", "x"]))
    return (word, "" if word == "is" and draw.random() < 0.2 else draw_text(draw))


def draw_action(draw, names, is_last):
    """Return an action, perhaps a drop or a stop if it is the last one."""
    words = ["file", "forward", "forward", "mark", "tag", "reply"]
    word = draw.choice(words + (["drop", "stop"] if is_last else []))
    if word in ("drop", "stop"):
        return (word,)
    if word == "file":
        return (word, draw.choice(["inbox", "old"]))
    if word == "forward":
        return (word, draw.choice(names + ["out", "zed"]))
    if word == "mark":
        return (word, draw.choice(["x", "y"]))
    return (word, draw_text(draw))


def draw_rule(draw, names):
    """Return a rule."""
    many = draw.randint(0, 2)
    return (draw_condition(draw), tuple(draw_action(draw, names, at == many - 1) for at in range(many)))


def draw_house(draw, most=4):
    """Return a house with at most so many addresses."""
    house = House()
    names = draw.sample(NAMES, draw.randint(1, most))
    for name in names:
        chance = draw.random()
        if chance < 0.5:
            house.add_mailbox(name, [draw_rule(draw, names) for _ in range(draw.randint(0, 3))])
        elif chance < 0.85:
            pool = sorted({*names, "ann", "zed", "out"})
            house.add_list(
                name, tuple(draw.sample(pool, draw.randint(0, 3))), tag=draw.choice(["", "a", "ab", "c"]),
                mark=draw.choice(["", "x", "y"]), closed=draw.random() < 0.4)
        else:
            house.add_alias(name, draw.choice(names + ["out"]))
    return house


def draw_busy_house(draw):
    """Return a house of three addresses or four that send to each other."""
    house = House()
    names = draw.sample(NAMES, draw.randint(3, 4))
    for name in names:
        if draw.random() < 0.6:
            members = tuple(draw.sample([*names, "out"], draw.choice([1, 1, 1, 2])))
            house.add_list(name, members, tag=draw.choice(["", "", "a"]), closed=draw.random() < 0.15)
        else:
            rules = [(ALWAYS if draw.random() < 0.5 else draw_condition(draw), tuple(
                draw_action(draw, names, False) for _ in range(draw.randint(1, 3)))) for _ in range(draw.randint(1, 2))]
            house.add_mailbox(name, rules)
    return house


def draw_message(draw, house):
    """Return a message, mostly to an address of the house."""
    addresses = house.addresses
    return (
        draw.choice(addresses + ["ann", "zed", "stranger", "bob"]),
        draw.choice(addresses + (["outside"] if draw.random() < 0.1 else [])),
        "".join(draw.choice("abcX") for _ in range(draw.randint(0, 5))),
        tuple(sorted(draw.sample(["auto", "x", "y", "q"], draw.randint(0, 2)))),
    )


def cases(seed, many, drawn=draw_house):
    """Return so many tuples (draw, house)."""
    found = []
    for number in range(many):
        draw = random.Random(1000 * seed + number)
        found.append((draw, drawn(draw)))
    return found


class Course:
    """What becomes of a message up to a number of hops, done one message after the other."""

    def __init__(self, house, message, hops=40, most=300):
        self.arrivals, self.filings, self.leavings, self.ways = 0, {}, {}, [[message]]
        while len(self.ways) <= hops and 0 < len(self.ways[-1]) <= most:
            sent = []
            for one in self.ways[-1]:
                sent.extend(self.done(house, one))
            self.ways.append(sent)
        self.is_over = not self.ways[-1]

    def done(self, house, message):
        """Count one message and return its offspring."""
        address = message[1]
        if address not in house.addresses:
            self.leavings[address] = self.leavings.get(address, 0) + 1
            return []
        self.arrivals += 1
        filed, sent = arrive(house, message)
        for folder in filed:
            self.filings[(address, folder)] = self.filings.get((address, folder), 0) + 1
        return sent


def all_cuts(house):
    """Return the list of all cuts of a house."""
    cuts = []
    for name in house.addresses:
        sort = house.sort_of(name)
        if sort == "alias":
            cuts.append(("alias", name))
        elif sort == "list":
            cuts.extend(("member", name, member) for member in house.list_of(name)[0])
        else:
            for place, (_, actions) in enumerate(house.rules_of(name)):
                numbers = [number for number, action in enumerate(actions) if action[0] in ("forward", "reply")]
                cuts.extend(("sent", name, place, number) for number in numbers)
    return cuts


def without(house, name, places):
    """Return a house without the rules at some places of a mailbox."""
    copy = house.copied()
    copy.set_rules(name, [rule for place, rule in enumerate(house.rules_of(name)) if place not in places])
    return copy


def mailbox_rules(house):
    """Return the list of the tuples (name, place) of all rules of a house."""
    mailboxes = [name for name in house.addresses if house.sort_of(name) == "mailbox"]
    return [(name, place) for name in mailboxes for place in range(len(house.rules_of(name)))]


def short_messages(house, addresses, names=(), marks=(), most=3, signs=" abc"):
    """Return all messages to addresses with short subjects, in order: from some senders, and with some marks.

    The senders are the names that a house knows, the names given, and some others, the marks those that it asks, those
    given, and another one that is greater than these.
    """
    senders = sorted({*known_names(house), *names, "a", "aa", "b", "zzz"})
    asked = sorted({*asked_marks(house), *marks})
    sets = [some for many in range(len(asked) + 1) for some in itertools.combinations(asked, many)]
    subjects = ["".join(told) for many in range(most + 1) for told in itertools.product(signs, repeat=many)]
    return sorted(
        [(sender, address, subject, some)
         for sender in senders for address in sorted(set(addresses)) for subject in subjects for some in [*sets, ("zz",)]],
        key=message_key)
