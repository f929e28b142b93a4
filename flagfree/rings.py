"""Rings: the rows of outcomes that come again for ever, and the greatest rate that one of them pays.

A graph is a dict from nodes to lists of outcomes (sign, price, weight, node behind). Each ring of it has a weight
above 0. A ring is a list of pairs (node, outcome), each outcome leading to the next node, the last one to the first.
"""

from flagfree.prices import Rate


def ring_from(node, taken):
    """The ring that the outcomes taken lead round from a node on, if they come back to it."""
    ring = [(node, taken[node])]
    while ring[-1][1][3] != node:
        behind = ring[-1][1][3]
        ring.append((behind, taken[behind]))
    return ring


def ring_among(taken):
    """A ring of the outcomes that are taken, one at most at each node; empty if there is none."""
    seen = {}
    for first in taken:
        node = first
        while node in taken and node not in seen:
            seen[node] = first
            node = taken[node][3]
        if node in taken and seen[node] == first:
            return ring_from(node, taken)
    return []


def raised(graph, rate):
    """The least numbers from 0 that keep to the rows of a rate, and no ring; or a ring that pays more, and None."""
    numbers = {node: 0 for node in graph}
    taken = {}
    changed = True
    while changed:
        changed = False
        for node in graph:
            for outcome in graph[node]:
                number = rate.weight * outcome[1] - rate.price * outcome[2] + numbers[outcome[3]]
                if number > numbers[node]:
                    numbers[node] = number
                    taken[node] = outcome
                    changed = True
        # Where the outcomes by which numbers rose lead round, the numbers would rise for ever.
        ring = ring_among(taken)
        if len(ring) > 0:
            return None, ring
    return numbers, []


def rate_of_ring(ring):
    """The price of a ring by its weight."""
    return Rate(sum([outcome[1] for _, outcome in ring]), sum([outcome[2] for _, outcome in ring]))


def greatest_ring(graph):
    """The greatest rate of a ring, the least numbers from 0 that keep it, and a ring that pays it."""
    rate = Rate(0)
    best = []
    while True:
        numbers, ring = raised(graph, rate)
        if len(ring) == 0:
            return rate, numbers, best
        rate = rate_of_ring(ring)
        best = ring


def graph_from(start, outcomes_at, most):
    """The graph of the nodes that come from a start on, in the order in which they are first met; None if too many.

    outcomes_at tells the outcomes of a node.
    """
    graph = {}
    met = {start: True}
    nodes = [start]
    at = 0
    while at < len(nodes):
        graph[nodes[at]] = outcomes_at(nodes[at])
        for _, _, _, behind in graph[nodes[at]]:
            if behind not in met:
                met[behind] = True
                nodes.append(behind)
        if len(nodes) > most:
            return None
        at = at + 1
    return graph


def gone(graph, node, content):
    """The price of what is sent for a content from a node on, and the node behind it; each outcome has a sign."""
    price = 0
    for sign in content:
        fits = [(more, behind) for one, more, _, behind in graph[node] if one == sign]
        price = price + fits[0][0]
        node = fits[0][1]
    return price, node
