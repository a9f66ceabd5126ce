"""Readers: for whom messages are filed or leave, and on which way they come there."""

from mailrings.arrivals import arrival_at, arrives, is_walk, offspring_of, walk_along
from mailrings.graphs import shortest_way
from mailrings.kinds import kinds_of, messages_to
from mailrings.names import as_message
from mailrings.numbers import numbers_of


def names_reading(house, message):
    """Return the list of the names that read a message; a mailbox with several folders comes several times."""
    # The numbers are told by ("filed", mailbox, folder) and ("left", address).
    return [key[1] for key in numbers_of(house, message)]


def readers(house, addresses, condition):
    """Return the dict from all names that read messages to addresses, with a condition that holds, to the least one."""
    found = {}
    for message in messages_to(house, addresses, condition, addresses):
        for name in names_reading(house, message):
            found.setdefault(name, message)
    return found


def first_leak(house, addresses, condition, name):
    """Return the least message to addresses, with a condition that holds, by which a name reads, or None."""
    for message in messages_to(house, addresses, condition, [name]):
        if name in names_reading(house, message):
            return message
    return None


def reads_here(house, message, name):
    """Return whether a message is filed in the mailbox of a name when it arrives there, or leaves for this name."""
    if message[1] != name:
        return False
    if not arrives(house, message):
        return True
    fired, filed, sent = arrival_at(house, message)
    return len(filed) > 0


def is_goal(kinds, kind, sender, name):
    """Return whether a name reads a message of a kind, from a sender, where it arrives, or what leaves from there."""
    filed, _, left = kinds.offspring(kind)
    # What leaves for the strange name is a reply to the sender, who is told by this name in kinds.
    names = [sender if one == kinds.strange else one for one in left]
    return name in names or (kind[1] == name and len(filed) > 0)


def way_to(house, message, name):
    """Return a shortest way of a message to a name, or None."""
    begin = as_message(message)
    if not arrives(house, begin):
        return [begin] if reads_here(house, begin, name) else None
    kinds = kinds_of(house)
    start = kinds.kind(begin)
    links = kinds.links_from([start])
    goals = {kind: True for kind in links if is_goal(kinds, kind, begin[0], name)}
    found = shortest_way(links, start, goals)
    if found is None:
        return None
    walk = walk_along(house, begin, found[0])
    if reads_here(house, walk[-1], name):
        return walk
    leaving = [copy for copy in offspring_of(house, walk[-1]) if copy[1] == name]
    return [*walk, leaving[0]]


def is_way(house, value, name):
    """Return whether any value is a way of a message to a name."""
    return is_walk(house, value) and reads_here(house, value[-1], name)
