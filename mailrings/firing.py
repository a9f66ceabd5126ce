"""Firing: which rules of a mailbox fire by some message, and the least one by which they do."""

from mailrings.arrivals import at_mailbox
from mailrings.errors import BadPlace
from mailrings.houses import is_place
from mailrings.kinds import kinds_of


def fired_by_kinds(kinds, name, rules):
    """Return the list of the tuples (kind, places of the rules that fire) for all kinds to a mailbox, in order."""
    found = []
    for kind in kinds.least_messages([name]):
        fired, filed, sent = at_mailbox(rules, kind)
        found.append((kind, tuple(fired)))
    return found


def fired_at(house, name):
    """Return the same for a house as it is now, which is worked out once as long as it does not change."""
    rules = house.rules_of(name)
    if ("fired", name) not in house.memory:
        house.memory[("fired", name)] = fired_by_kinds(kinds_of(house), name, rules)
    return house.memory[("fired", name)]


def first_firing(house, name, place):
    """Return the least message to a mailbox by which a rule fires, or None."""
    if not is_place(place, len(house.rules_of(name))):
        raise BadPlace(place)
    for kind, places in fired_at(house, name):
        if place in places:
            return kind
    return None


def firings(house, name):
    """Return the list of the tuples (places, least message) for all firings at a mailbox, in order of the messages."""
    first = {}
    for kind, places in fired_at(house, name):
        first.setdefault(places, kind)
    return list(first.items())


def idle_rules(house):
    """Return the list of the tuples (name, place) of the rules that never fire, ascending."""
    idle = []
    for name in house.addresses:
        if house.sort_of(name) == "mailbox":
            fired = {place: True for places, _ in firings(house, name) for place in places}
            idle.extend([(name, place) for place in range(len(house.rules_of(name))) if place not in fired])
    return idle
