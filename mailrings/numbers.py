"""Numbers: how often a message arrives, is filed and leaves, each told by None if it is endless."""

from mailrings.arrivals import arrives
from mailrings.errors import BadWish
from mailrings.graphs import goes_round, lots_of
from mailrings.kinds import kinds_of
from mailrings.names import as_message, is_name


def added(one, other):
    """Return the sum of two numbers, each of which may be endless."""
    return None if one is None or other is None else one + other


def total(numbers):
    """Return the sum of numbers, each of which may be endless."""
    return None if None in numbers else sum(numbers)


def walks_to(links, start):
    """Return the dict from the nodes that a graph has behind its start to how many walks lead there from it."""
    times = {node: 0 for node in links}
    times[start] = 1
    for lot in lots_of(links):
        if goes_round(links, lot):
            for node in lot:
                times[node] = None
        for node in lot:
            for _, target in links[node]:
                times[target] = added(times[target], times[node])
    return times


def arrivals(house, message):
    """Return the number of arrivals of a message, None for endless."""
    if not arrives(house, message):
        return 0
    kinds = kinds_of(house)
    start = kinds.kind(as_message(message))
    return total(list(walks_to(kinds.links_from([start]), start).values()))


class Rows:
    """Dicts of the numbers of filings and leavings, each at a place; equal ones have the same place.

    The keys are ("filed", mailbox, folder) and ("left", address). What is not there has the number 0.
    """

    def __init__(self):
        self._rows = []
        self._places = {}
        # Many kinds have the same offspring, so sums that were made are kept.
        self._sums = {}

    def row(self, place):
        """Return the dict at a place, which is not to be changed."""
        return self._rows[place]

    def _place(self, row):
        told = tuple(sorted(row.items()))
        if told not in self._places:
            self._places[told] = len(self._rows)
            self._rows.append(row)
        return self._places[told]

    def sum_place(self, keys, places):
        """Return the place of the sum of one for each of some keys and of the dicts at some places."""
        if (keys, places) not in self._sums:
            row = {}
            for key in keys:
                row[key] = added(row.get(key, 0), 1)
            for place in places:
                for key, number in self._rows[place].items():
                    row[key] = added(row.get(key, 0), number)
            self._sums[(keys, places)] = self._place(row)
        return self._sums[(keys, places)]

    def endless_place(self, keys, places):
        """Return the place of the dict in which all keys are endless: some, and those of the dicts at some places."""
        found = {key: None for key in keys}
        for place in sorted(set(places)):
            for key in self._rows[place]:
                found[key] = None
        return self._place(found)


def keys_of(kind, filed, left):
    """Return the tuple of the keys that an arrival of a kind adds one to, if it is filed in folders and some leave."""
    return tuple([*[("filed", kind[1], folder) for folder in filed], *[("left", name) for name in left]])


def add_places(rows, courses, found):
    """Put the places of the rows of kinds into a dict that has those of all other kinds to which they lead.

    Courses is a dict from the kinds to tuples (folders, kinds of the offspring that arrive, addresses of the others).
    """
    keys = {kind: keys_of(kind, filed, left) for kind, (filed, _, left) in courses.items()}
    links = {
        kind: [(at, target) for at, target in enumerate(targets) if target in courses]
        for kind, (_, targets, _) in courses.items()
    }
    for lot in reversed(lots_of(links)):
        if goes_round(links, lot):
            inside = {kind: True for kind in lot}
            owns = [key for kind in lot for key in keys[kind]]
            behind = [found[target] for kind in lot for target in courses[kind][1] if target not in inside]
            place = rows.endless_place(owns, behind)
        else:
            place = rows.sum_place(keys[lot[0]], tuple([found[target] for target in courses[lot[0]][1]]))
        for kind in lot:
            found[kind] = place


class Totals:
    """The numbers of filings and leavings of kinds, worked out as they are asked for."""

    def __init__(self, kinds, rows):
        self._kinds = kinds
        self._rows = rows
        self._found = {}

    def place(self, kind):
        """Return the place of a kind's numbers among the rows."""
        if kind not in self._found:
            add_places(self._rows, self._courses_from(kind), self._found)
        return self._found[kind]

    def row(self, kind):
        """Return the dict of the numbers of a kind, which is not to be changed."""
        return self._rows.row(self.place(kind))

    def _courses_from(self, start):
        courses = {}
        waiting = [start]
        while waiting:
            kind = waiting.pop()
            if kind not in courses and kind not in self._found:
                courses[kind] = self._kinds.offspring(kind)
                waiting.extend(courses[kind][1])
        return courses


def totals_of(house):
    """Return the totals of a house as it is now, which are kept as long as it does not change."""
    if "totals" not in house.memory:
        house.memory["totals"] = Totals(kinds_of(house), Rows())
    return house.memory["totals"]


def numbers_of(house, message):
    """Return the dict from ("filed", mailbox, folder) and ("left", address) to the numbers of a message."""
    sender, address, subject, marks = message
    if not arrives(house, message):
        return {("left", address): 1}
    kinds = kinds_of(house)
    row = totals_of(house).row(kinds.kind(message))
    # What leaves for the strange name is a reply to the sender, who is told by this name in kinds.
    strange = ("left", kinds.strange)
    return {("left", sender) if key == strange else key: number for key, number in row.items()}


def filings_in(numbers):
    """Return the dict from the tuples (mailbox, folder) to the numbers, of a dict of filings and leavings."""
    return {key[1:]: number for key, number in numbers.items() if key[0] == "filed"}


def leavings_in(numbers):
    """Return the dict from the addresses outside to the numbers, of a dict of filings and leavings."""
    return {key[1]: number for key, number in numbers.items() if key[0] == "left"}


def filings(house, message):
    """Return the dict from the tuples (mailbox, folder) in which something is filed to the numbers."""
    return filings_in(numbers_of(house, message))


def leavings(house, message):
    """Return the dict from the addresses outside for which something leaves to the numbers."""
    return leavings_in(numbers_of(house, message))


def is_measure(value):
    """Return whether any value is a measure."""
    if not isinstance(value, tuple) or not value or not all([is_name(name) for name in value[1:]]):
        return False
    if value[0] == "filed":
        return len(value) in (2, 3)
    if value[0] == "left":
        return len(value) in (1, 2)
    return value == ("all",)


def measured(numbers, what):
    """Return the number for a measure, if a dict has the numbers of filings and leavings."""
    # A measure is the beginning of the keys of what it counts.
    return total([number for key, number in numbers.items() if what == ("all",) or key[:len(what)] == what])


def measure(house, message, what):
    """Return the number of a message for a measure, None for endless."""
    if not is_measure(what):
        raise BadWish(what)
    return measured(numbers_of(house, message), what)
