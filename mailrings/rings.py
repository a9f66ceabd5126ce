"""Rings: messages that come round for ever, and papers which show that none does."""

from mailrings.arrivals import arrives, is_walk, walk_along
from mailrings.errors import Endless
from mailrings.graphs import endless_nodes, goes_round, lots_of, rounds_from, shortest_way
from mailrings.houses import is_count, is_place
from mailrings.kinds import kinds_of
from mailrings.names import as_message, message_key


def all_links(house):
    """Return the graph of all kinds of a house."""
    kinds = kinds_of(house)
    return kinds.links_from(kinds.kinds)


def first_endless(house):
    """Return the least message that has endless arrivals, or None."""
    # A kind is the least message of those that it stands for, so no other message need be asked.
    return min(list(endless_nodes(all_links(house))), key=message_key, default=None)


def ring_from(house, message):
    """Return a ring that begins with a message, or None if it has finitely many arrivals."""
    begin = as_message(message)
    if not arrives(house, begin):
        return None
    kinds = kinds_of(house)
    start = kinds.kind(begin)
    links = kinds.links_from([start])
    lots = {kind: lot for lot in lots_of(links) if goes_round(links, lot) for kind in lot}
    if not lots:
        return None
    # A short ring has short subjects, too.
    way, kind = shortest_way(links, start, lots)
    ring = min(rounds_from(links, lots[kind], kind), key=len)
    return walk_along(house, begin, [*way, *ring]), len(way)


def is_ring(house, value):
    """Return whether any value is a ring of a house."""
    if not isinstance(value, tuple) or len(value) != 2:
        return False
    walk, place = value
    if not is_walk(house, walk) or not is_place(place, len(walk) - 1) or not arrives(house, walk[-1]):
        return False
    kinds = kinds_of(house)
    return kinds.kind(walk[-1]) == kinds.kind(walk[place])


def need_finite(house):
    """Raise an error with a ring of the least message that has endless arrivals, if there is one."""
    message = first_endless(house)
    if message is not None:
        raise Endless(ring_from(house, message))


def is_rank_paper(house, value):
    """Return whether any value is a dict from exactly the kinds to integers from 0 on that fall with each offspring."""
    links = all_links(house)
    if not isinstance(value, dict) or len(value) != len(links):
        return False
    if not all([kind in value and is_count(value[kind]) for kind in links]):
        return False
    return all([value[kind] > value[target] for kind, row in links.items() for _, target in row])


def rank_paper(house):
    """Return a rank paper for a house, or None if there is none."""
    links = all_links(house)
    ranks = {}
    for lot in reversed(lots_of(links)):
        if goes_round(links, lot):
            return None
        ranks[lot[0]] = 1 + max([ranks[target] for _, target in links[lot[0]]], default=-1)
    return ranks
