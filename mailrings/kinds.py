"""Kinds: endlessly many messages, told by finitely many that stand for them."""

from itertools import combinations

from mailrings.arrivals import arrival_at
from mailrings.conditions import holds, marks_of, names_of, subject_passes, tests_of
from mailrings.machines import Machine, house_tests
from mailrings.names import as_message, message_key, strange_name


def asked_marks(house):
    """Return the list of the names that conditions of a house ask as marks, ascending."""
    entries = [house.entry_of(name) for name in house.addresses]
    rules = [rule for sort, what in entries if sort == "mailbox" for rule in what]
    return sorted(set([mark for condition, _ in rules for mark in marks_of(condition)]))


def names_in_entry(sort, what):
    """Return the names that an address knows: in "from" and "forward", the members, or the target."""
    if sort == "list":
        return what[0]
    if sort == "alias":
        return [what]
    asked = [name for condition, _ in what for name in names_of(condition)]
    return [*asked, *[action[1] for _, actions in what for action in actions if action[0] == "forward"]]


def known_names(house):
    """Return the list of the names that a house knows, its addresses included, ascending."""
    names = []
    for name in house.addresses:
        sort, what = house.entry_of(name)
        names.append(name)
        names.extend(names_in_entry(sort, what))
    return sorted(set(names))


def mark_sets(marks):
    """Return the list of the tuples of some of the marks, which are ascending: fewer first, then as Python compares."""
    return [some for many in range(len(marks) + 1) for some in combinations(marks, many)]


class Kinds:
    """The kinds of a house as it is now, perhaps with further tests, known names and asked marks."""

    def __init__(self, house, *, tests=(), names=(), marks=()):
        self._house = house.copied()
        self._addresses = house.addresses
        self._machine = Machine([*house_tests(house), *tests])
        self._subjects = self._machine.subjects
        self._known = {name: True for name in [*known_names(house), *names]}
        self._asked = {mark: True for mark in [*asked_marks(house), *marks]}
        self.strange = strange_name(list(self._known))
        # What becomes of each kind is worked out once, as the same kinds come again and again.
        self._courses = {}

    def least_messages(self, addresses):
        """Return the list of the least messages to addresses, in order: one for each kind that such a message has."""
        senders = sorted([*self._known, self.strange])
        sets = mark_sets(sorted(self._asked))
        names = sorted(set(addresses))
        return [
            (sender, address, subject, marks)
            for subject in self._subjects for marks in sets for address in names for sender in senders
        ]

    @property
    def kinds(self):
        """The list of all kinds, in the order of messages."""
        return self.least_messages(self._addresses)

    def kind(self, message):
        """Return the kind of a message to an address of the house."""
        sender, address, subject, marks = message
        return (
            sender if sender in self._known else self.strange,
            address,
            self.least(subject),
            tuple([mark for mark in marks if mark in self._asked]),
        )

    def least(self, subject):
        """Return the least subject that is alike for the house."""
        return self._machine.least(subject)

    def has(self, name):
        """Return whether a name is an address of the house."""
        return self._house.entry_of(name) is not None

    def _course_in(self, house, kind):
        fired, filed, sent = arrival_at(house, kind)
        links, left = [], []
        for place, (cut, copy) in enumerate(sent):
            if self.has(copy[1]):
                links.append((place, cut, self.kind(copy)))
            else:
                left.append(copy[1])
        return [folder for folder, _ in filed], links, left

    def course(self, kind):
        """Return (filed, links, left) for a message of a kind.

        Links are tuples (place among the offspring, cut that would take it out, kind of what arrives).
        """
        if kind not in self._courses:
            self._courses[kind] = self._course_in(self._house, kind)
        return self._courses[kind]

    def offspring(self, kind):
        """Return (folders, kinds of the offspring that arrive, addresses for which others leave), in sequence."""
        filed, links, left = self.course(as_message(kind))
        return list(filed), [target for _, _, target in links], list(left)

    def offspring_in(self, house, kind):
        """Return the same for another house with the same addresses, which has no other tests, names and marks."""
        filed, links, left = self._course_in(house, kind)
        return filed, [target for _, _, target in links], left

    def links_from(self, starts):
        """Return the graph of all kinds to which some kinds lead, with the places among the offspring as labels."""
        found = {}
        waiting = list(starts)
        while waiting:
            kind = waiting.pop()
            if kind not in found:
                filed, links, left = self.course(kind)
                found[kind] = [(place, target) for place, _, target in links]
                waiting.extend([target for _, _, target in links])
        return found


def kinds_of(house):
    """Return the kinds of a house as it is now, which are worked out once as long as it does not change."""
    if "kinds" not in house.memory:
        house.memory["kinds"] = Kinds(house)
    return house.memory["kinds"]


def least_holding(condition, subject, senders, asked, others):
    """Return the list of the tuples (sender, marks of the asked ones, least marks with which a condition holds).

    There is one for each sender and each set of asked marks for which some of the other marks can let it hold.
    """
    found = {}
    names = sorted([*asked, *others])
    wanted = len(senders) << len(asked)
    for many in range(len(names) + 1):
        for marks in combinations(names, many):
            if len(found) == wanted:
                break
            told = tuple([mark for mark in marks if mark in asked])
            for sender in senders:
                if (sender, told) not in found and holds(condition, (sender, sender, subject, marks)):
                    found[(sender, told)] = marks
    return [(sender, told, marks) for (sender, told), marks in found.items()]


def messages_to(house, addresses, condition, names):
    """Return the list of messages to addresses, outside too, for which a condition holds, in order.

    There is the least one for each address, kind of a house and sender; the senders are those that the house knows,
    the names in the condition, some other names, and one for all the others.
    """
    kinds = kinds_of(house)
    tests = tests_of(condition)
    known = sorted(set([*known_names(house), *names_of(condition), *names]))
    senders = [*known, strange_name(known)]
    asked = asked_marks(house)
    others = [mark for mark in marks_of(condition) if mark not in asked]
    holding, done, found = {}, {}, []
    for subject in Machine([*house_tests(house), *tests]).subjects:
        results = tuple([subject_passes(word, text, subject) for word, text in tests])
        if results not in holding:
            holding[results] = least_holding(condition, subject, senders, asked, others)
        least = kinds.least(subject)
        for sender, told, marks in holding[results]:
            if (least, sender, told) not in done:
                done[(least, sender, told)] = True
                found.extend([(sender, address, subject, marks) for address in sorted(set(addresses))])
    return sorted(found, key=message_key)
