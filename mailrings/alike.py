"""Houses that are alike for all messages, and rules that may be left out or change places."""

from mailrings.firing import fired_by_kinds
from mailrings.kinds import Kinds, asked_marks, kinds_of, known_names
from mailrings.machines import house_tests
from mailrings.names import message_key
from mailrings.numbers import Rows, Totals, add_places, numbers_of


def totals_beside(house, other, rows):
    """Return (kinds, totals) of a house whose messages are told apart by what another house asks, too."""
    kinds = Kinds(house, tests=house_tests(other), names=known_names(other), marks=asked_marks(other))
    return kinds, Totals(kinds, rows)


def first_different(first, second):
    """Return the least message for which two houses are not alike, or None."""
    rows = Rows()
    kinds, one = totals_beside(first, second, rows)
    _, two = totals_beside(second, first, rows)
    # The same kinds stand for the messages to what both houses have. What one of them has alone is different for all.
    shared = [name for name in first.addresses if name in second.addresses]
    alone = [name for name in first.addresses + second.addresses if name not in shared]
    found = kinds.least_messages(alone)[:1]
    for kind in kinds.least_messages(shared):
        if one.place(kind) != two.place(kind):
            found.append(kind)
            break
    return min(found, key=message_key, default=None)


def differing(first, second, message):
    """Return the list of what is different for a message: its numbers that are not the same in both houses."""
    one, two = numbers_of(first, message), numbers_of(second, message)
    keys = sorted(set([*one, *two]))
    return [(*key, one.get(key, 0), two.get(key, 0)) for key in keys if one.get(key, 0) != two.get(key, 0)]


class Standing:
    """What becomes of the kinds of a house, beside which other houses are held.

    These have other rules in a mailbox, but only such as the house has. So its kinds tell apart what they ask, too.
    """

    def __init__(self, house):
        self._kinds = kinds_of(house)
        self._courses = {kind: self._kinds.offspring(kind) for kind in self._kinds.kinds}
        self._rows = Rows()
        self._places = {}
        add_places(self._rows, self._courses, self._places)

    def kinds_fired(self, name, rules):
        """Return, for each of the rules of a mailbox, the list of the kinds by which it fires."""
        found = [[] for _ in rules]
        for kind, places in fired_by_kinds(self._kinds, name, rules):
            for place in places:
                found[place].append(kind)
        return found

    def changed(self, house, kinds):
        """Return the dict from those of some kinds of which something else becomes in another house to this."""
        courses = {kind: self._kinds.offspring_in(house, kind) for kind in kinds}
        return {kind: course for kind, course in courses.items() if course != self._courses[kind]}

    def _behind(self, changed):
        courses = {}
        waiting = list(changed)
        while waiting:
            kind = waiting.pop()
            if kind not in courses:
                courses[kind] = changed.get(kind, self._courses[kind])
                waiting.extend(courses[kind][1])
        return courses

    def stays_alike(self, changed):
        """Return whether a house with a dict of changed kinds is alike for all messages.

        If the changed kinds have the same numbers as before, so have the others, which add them up as before.
        """
        places = {}
        add_places(self._rows, self._behind(changed), places)
        return all([places[kind] == self._places[kind] for kind in changed])

    def take(self, changed):
        """Let another house, alike for all messages, with a dict of changed kinds, be the one to hold others beside."""
        self._courses.update(changed)


def mailboxes_of(house):
    """Return the list of the tuples (name, rules) of the mailboxes of a house, ascending."""
    return [(name, house.rules_of(name)) for name in house.addresses if house.sort_of(name) == "mailbox"]


def spare_rules(house):
    """Return the list of the tuples (name, place) of the rules each of which may be left out by itself, ascending."""
    standing = Standing(house)
    spare = []
    for name, rules in mailboxes_of(house):
        for place, kinds in enumerate(standing.kinds_fired(name, rules)):
            if standing.stays_alike(standing.changed(house.without_rule(name, place), kinds)):
                spare.append((name, place))
    return spare


def changeable(house):
    """Return the list of the tuples (name, place) for which a rule and the next one may change places, ascending."""
    standing = Standing(house)
    found = []
    for name, rules in mailboxes_of(house):
        fired = standing.kinds_fired(name, rules)
        for place in range(len(rules) - 1):
            # Where neither of the two fires, neither fires when the other one is asked first.
            kinds = [*fired[place], *fired[place + 1]]
            if standing.stays_alike(standing.changed(house.with_rules_changed(name, place), kinds)):
                found.append((name, place))
    return found


def thinned(standing, house, name):
    """Return a house without rules of a mailbox that may be left out one after the other."""
    fired = standing.kinds_fired(name, house.rules_of(name))
    place = 0
    while place < len(fired):
        other = house.without_rule(name, place)
        changed = standing.changed(other, fired[place])
        if standing.stays_alike(changed):
            standing.take(changed)
            house = other
            fired = standing.kinds_fired(name, house.rules_of(name))
        else:
            place += 1
    return house


def simplified(house):
    """Return a house that is alike for all messages and has no rule that may be left out."""
    standing = Standing(house)
    simple, before = house.copied(), None
    # A rule that had to stay may be left out when another one is gone.
    while simple != before:
        before = simple
        for name in house.addresses:
            if house.sort_of(name) == "mailbox":
                simple = thinned(standing, simple, name)
    return simple
