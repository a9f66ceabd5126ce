"""Numbers: how often a message arrives, is filed and leaves, each told by None if it is endless."""

from mailrings.arrivals import arrives
from mailrings.errors import BadWish
from mailrings.graphs import goes_round, lots_of
from mailrings.kinds import kinds_of
from mailrings.names import as_message, is_name


def added(one, other):
    """Return the sum of two numbers, each of which may be endless."""
    return None if one is None or other is None else one + other


def total(numbers):
    """Return the sum of numbers, each of which may be endless."""
    return None if None in numbers else sum(numbers)


def walks_to(links, start):
    """Return the dict from the nodes that a graph has behind its start to how many walks lead there from it."""
    times = {node: 0 for node in links}
    times[start] = 1
    for lot in lots_of(links):
        if goes_round(links, lot):
            for node in lot:
                times[node] = None
        for node in lot:
            for _, target in links[node]:
                times[target] = added(times[target], times[node])
    return times


def arrivals_by_kind(house, message):
    """Return the dict from the kinds of the arrivals of a message to their numbers."""
    if not arrives(house, message):
        return {}
    kinds = kinds_of(house)
    start = kinds.kind(message)
    return walks_to(kinds.links_from([start]), start)


def arrivals(house, message):
    """Return the number of arrivals of a message, None for endless."""
    return total(list(arrivals_by_kind(house, as_message(message)).values()))


def filings(house, message):
    """Return the dict from the tuples (mailbox, folder) in which something is filed to the numbers."""
    kinds = kinds_of(house)
    found = {}
    for kind, times in arrivals_by_kind(house, as_message(message)).items():
        filed, links, left = kinds.course(kind)
        for folder in filed:
            found[(kind[1], folder)] = added(found.get((kind[1], folder), 0), times)
    return found


def leavings(house, message):
    """Return the dict from the addresses outside for which something leaves to the numbers."""
    sender, address, subject, marks = message
    if not arrives(house, message):
        return {address: 1}
    kinds = kinds_of(house)
    found = {}
    for kind, times in arrivals_by_kind(house, as_message(message)).items():
        filed, links, left = kinds.course(kind)
        for name in left:
            # What leaves for the strange name is a reply to the sender, who is told by this name in kinds.
            outside = sender if name == kinds.strange else name
            found[outside] = added(found.get(outside, 0), times)
    return found


def is_measure(value):
    """Return whether any value is a measure."""
    if not isinstance(value, tuple) or not value or not all([is_name(name) for name in value[1:]]):
        return False
    if value[0] == "filed":
        return len(value) in (2, 3)
    if value[0] == "left":
        return len(value) in (1, 2)
    return value == ("all",)


def measure(house, message, what):
    """Return the number of a message for a measure, None for endless."""
    if not is_measure(what):
        raise BadWish(what)
    word, names = what[0], what[1:]
    numbers = []
    if word != "left":
        found = filings(house, message)
        numbers.extend([found[place] for place in found if place[:len(names)] == names])
    if word != "filed":
        found = leavings(house, message)
        numbers.extend([found[name] for name in found if names in ((), (name,))])
    return total(numbers)
