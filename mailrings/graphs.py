"""Graphs, told as links: a dict from each node to the list of the (label, node) to which it leads."""


def nodes_as_left(links):
    """Return the nodes in the sequence in which walks that go as deep as they can leave them for good."""
    seen = {}
    order = []
    for start in links:
        path = [] if start in seen else [(start, 0)]
        seen[start] = True
        while path:
            node, at = path.pop()
            row = links[node]
            while at < len(row) and row[at][1] in seen:
                at += 1
            if at < len(row):
                target = row[at][1]
                seen[target] = True
                path.append((node, at + 1))
                path.append((target, 0))
            else:
                order.append(node)
    return order


def links_turned(links):
    """Return the links of a graph turned round."""
    back = {node: [] for node in links}
    for node, row in links.items():
        for label, target in row:
            back[target].append((label, node))
    return back


def lots_of(links):
    """Return the lists of nodes that lead to each other; each link stays in its list or leads to a later one."""
    back = links_turned(links)
    seen = {}
    lots = []
    for start in reversed(nodes_as_left(links)):
        lot = [] if start in seen else [start]
        seen[start] = True
        at = 0
        while at < len(lot):
            node = lot[at]
            for _, source in back[node]:
                if source not in seen:
                    seen[source] = True
                    lot.append(source)
            at += 1
        if lot:
            lots.append(lot)
    return lots


def links_within(links, lot):
    """Return the links of a graph that stay among the nodes of a lot."""
    inside = {node: True for node in lot}
    return {node: [(label, target) for label, target in links[node] if target in inside] for node in lot}


def count_links(links):
    """Return how many links there are."""
    return sum([len(row) for row in links.values()])


def goes_round(links, lot):
    """Return whether walks can go round in a lot for ever."""
    return len(lot) > 1 or lot[0] in [target for _, target in links[lot[0]]]


def endless_nodes(links):
    """Return the dict from the nodes from which a walk can go on for ever to True."""
    endless = {}
    for lot in reversed(lots_of(links)):
        if goes_round(links, lot) or any([target in endless for _, target in links[lot[0]]]):
            for node in lot:
                endless[node] = True
    return endless


def labels_back(came, node):
    """Return the labels on the way to a node, if it is told by which (label, node) one came to each but the first."""
    labels = []
    while came[node] is not None:
        label, node = came[node]
        labels.append(label)
    return labels[::-1]


def shortest_way(links, start, goals):
    """Return (labels, goal) of a shortest walk from a node to one of the nodes in a dict of goals, or None."""
    came = {start: None}
    reached = [start]
    at = 0
    while at < len(reached):
        node = reached[at]
        if node in goals:
            return labels_back(came, node), node
        for label, target in links[node]:
            if target not in came:
                came[target] = (label, node)
                reached.append(target)
        at += 1
    return None


def rounds_from(links, lot, start):
    """Return walks from a node back to it in its lot, without it between, as labels: one for each first link."""
    inside = links_within(links, lot)
    return [[label, *shortest_way(inside, target, {start: True})[0]] for label, target in inside[start]]
