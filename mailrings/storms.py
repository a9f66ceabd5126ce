"""Storms: how fast messages on their way multiply, and what is to be cut so that none comes round."""

from mailrings.arrivals import arrives, walk_along
from mailrings.graphs import count_links, goes_round, links_within, lots_of, rounds_from, shortest_way
from mailrings.houses import is_count
from mailrings.kinds import kinds_of
from mailrings.names import as_message

STORM = "storm"


def links_behind(house, message):
    """Return the graph of the kinds of the arrivals of a message."""
    if not arrives(house, message):
        return {}
    kinds = kinds_of(house)
    return kinds.links_from([kinds.kind(message)])


def is_storm_lot(links, lot):
    """Return whether two rings go through one node of a lot: if not, it has one link for each node, or none at all."""
    return count_links(links_within(links, lot)) > len(lot)


def growth(house, message):
    """Return None if a message has finitely many arrivals, "storm" if it is a storm, otherwise its power."""
    links = links_behind(house, as_message(message))
    # How many rings can be gone through one behind the other on the way to each node, then with its own lot.
    rings = {node: 0 for node in links}
    most = 0
    for lot in lots_of(links):
        if is_storm_lot(links, lot):
            return STORM
        here = max([rings[node] for node in lot]) + (1 if goes_round(links, lot) else 0)
        most = max(most, here)
        for node in lot:
            for _, target in links[node]:
                rings[target] = max(rings[target], here)
    return most - 1 if most > 0 else None


def walked(house, message, places):
    """Return the messages from one on, each at the next of the places among the offspring of the one before it.

    None if there is no such place, or if one does not arrive.
    """
    return walk_along(house, as_message(message), places)


def storm_rings(house, message):
    """Return (way, first, second) for a storm: the places to a message, and on two ways from it back to its kind.

    None if it is no storm.
    """
    begin = as_message(message)
    links = links_behind(house, begin)
    for lot in lots_of(links):
        if is_storm_lot(links, lot):
            inside = links_within(links, lot)
            forks = {kind: True for kind in lot if len(inside[kind]) > 1}
            way, fork = shortest_way(links, kinds_of(house).kind(begin), forks)
            rounds = rounds_from(links, lot, fork)
            return way, rounds[0], rounds[1]
    return None


def kinds_along(links, start, places):
    """Return the kinds from one on, each at the next place of its offspring, or None if none is there that arrives."""
    walk = [start]
    for place in places:
        following = [target for label, target in links[walk[-1]] if label == place]
        if not following:
            return None
        walk.append(following[0])
    return walk


def comes_round(links, start, places):
    """Return whether one place or more lead from a kind back to it, without it between."""
    walk = kinds_along(links, start, places)
    return walk is not None and len(walk) > 1 and walk[-1] == start and start not in walk[1:-1]


def are_storm_rings(house, message, value):
    """Return whether any value is a tuple of lists of places as storm_rings tells it for a message."""
    if not isinstance(value, tuple) or len(value) != 3:
        return False
    if not all([isinstance(places, list) and all([is_count(place) for place in places]) for places in value]):
        return False
    begin = as_message(message)
    links = links_behind(house, begin)
    way, first, second = value
    walk = kinds_along(links, kinds_of(house).kind(begin), way) if links else None
    return walk is not None and first != second and all([comes_round(links, walk[-1], places) for places in value[1:]])


def counts_after_hop(rows, counts):
    """Return the dict from places to how many messages are there one hop after a dict of such counts."""
    following = {}
    for place, many in counts.items():
        for target in rows[place]:
            following[target] = following.get(target, 0) + many
    return following


def count_after(house, message, hops):
    """Return how many messages are on their way after a number of hops."""
    links = links_behind(house, as_message(message))
    kinds = kinds_of(house)
    places = {kind: place for place, kind in enumerate(links)}
    # The last row is outside, from where nothing is sent on. The kind of the message has the first one.
    outside = len(links)
    rows = [[places[target] for _, target in links[kind]] + [outside] * len(kinds.course(kind)[2]) for kind in links]
    rows.append([])
    counts = {0: 1}
    for _ in range(hops):
        counts = counts_after_hop(rows, counts)
    return sum(list(counts.values()))


def bits_in(mask):
    """Return the list of the single bits of a number."""
    bits = []
    while mask:
        bits.append(mask & -mask)
        mask = mask & (mask - 1)
    return bits


def cuts_of_link(house, kind, cut):
    """Return the list of the cuts by each of which a copy of an arrival of a kind is not sent: one, or one more."""
    word, name = cut[0], cut[1]
    if word == "member" and house.list_of(name)[3]:
        # A closed list takes nothing from a sender who is a member no more.
        return [cut, (word, name, kind[0])]
    return [cut]


def links_with_cuts(house):
    """Return (links, bits): the graph of all kinds, and the dict from each cut to a bit of its own.

    The label of a link is the sum of the bits of the cuts that take it out.
    """
    kinds = kinds_of(house)
    links, bits = {}, {}
    for kind in kinds.kinds:
        links[kind] = []
        for _, cut, target in kinds.course(kind)[1]:
            mask = 0
            for one in cuts_of_link(house, kind, cut):
                mask = mask | bits.setdefault(one, 1 << len(bits))
            links[kind].append((mask, target))
    return links, bits


def rows_going_round(links):
    """Return a graph without what cannot come round: a list of rows of (label, place of the row to which it leads)."""
    rows = []
    for lot in lots_of(links):
        if goes_round(links, lot):
            inside = links_within(links, lot)
            places = {node: len(rows) + at for at, node in enumerate(lot)}
            rows.extend([[(mask, places[target]) for mask, target in inside[node]] for node in lot])
    return rows


def place_going_round(rows, taken):
    """Return a place to which one can come back by links that no cut in a number of bits takes out, or None."""
    # A place is on the path from where it is begun until all behind it is done.
    begun, done = {}, {}
    for start in range(len(rows)):
        path = [] if start in done else [(start, 0)]
        while path:
            place, at = path.pop()
            begun[place] = True
            row = rows[place]
            while at < len(row) and (row[at][0] & taken or row[at][1] in done):
                at += 1
            if at == len(row):
                done[place] = True
            elif row[at][1] in begun:
                return row[at][1]
            else:
                path.append((place, at + 1))
                path.append((row[at][1], 0))
    return None


def shortest_ring(rows, taken, start):
    """Return the bits of the cuts that take out a shortest way from a place back to it."""
    reached = {}
    ends = [(start, 0)]
    while ends:
        further = []
        for place, ring in ends:
            for mask, target in rows[place]:
                if mask & taken == 0 and target == start:
                    return ring | mask
                if mask & taken == 0 and target not in reached:
                    reached[target] = True
                    further.append((target, ring | mask))
        ends = further
    return None


def rings_left(rows, chosen):
    """Return rings, as bits of cuts, that no chosen cut takes out: no two by one cut, and as many as are found so."""
    rings = []
    taken = chosen
    place = place_going_round(rows, taken)
    while place is not None:
        rings.append(shortest_ring(rows, taken, place))
        taken = taken | rings[-1]
        place = place_going_round(rows, taken)
    return rings


def count_apart(rings):
    """Return a number of rings, no two of which one cut takes out, so that they need as many cuts."""
    taken = many = 0
    for ring in rings:
        if ring & taken == 0:
            taken = taken | ring
            many += 1
    return many


def cuts_through(rings, chosen, barred, many):
    """Return the chosen cuts and at most so many others, none of them barred, that take out all rings, or None."""
    left = [ring & ~barred for ring in rings if ring & chosen == 0]
    if not left:
        return chosen
    if 0 in left or count_apart(left) > many:
        return None
    for bit in bits_in(left[0]):
        found = cuts_through(rings, chosen | bit, barred, many - 1)
        if found is not None:
            return found
        # That was tried with all others, so the next ones need not try it again.
        barred = barred | bit
    return None


def fewest_through(rings, least):
    """Return the bits of as few cuts as possible that take out all rings, if it is known that so many are needed."""
    found = None
    many = least
    while found is None:
        found = cuts_through(rings, 0, 0, many)
        many += 1
    return found


def fewest_cuts(house):
    """Return a list of cuts, as few as possible, with which no message has endless arrivals."""
    links, bits = links_with_cuts(house)
    rows = rows_going_round(links)
    # All rings are too many. So there are only those that the fewest cuts for the ones before have left over.
    rings, chosen = [], 0
    left = rings_left(rows, chosen)
    while left:
        rings = sorted([*rings, *left], key=lambda ring: len(bits_in(ring)))
        chosen = fewest_through(rings, len(bits_in(chosen)))
        left = rings_left(rows, chosen)
    return [cut for cut, bit in bits.items() if bit & chosen]
