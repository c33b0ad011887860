"""Whole orders: how many there are, but for exchanges, and whether all lead to one stand."""

from meettasks.errors import Endless
from meettasks.graphs import graph_of
from meettasks.traces import do_touch
from meettasks.ways import ARRIVED, first_way


def rising(graph):
    """The numbers of stands, each ahead of those to which it leads; fewer than all if some way comes back."""
    barring = [0] * len(graph.stands)
    for edges in graph.edges:
        for edge in edges:
            barring[edge.target] += 1
    free = [at for at in range(len(graph.stands)) if barring[at] == 0]
    found = []
    while free:
        at = free.pop()
        found.append(at)
        for edge in graph.edges[at]:
            barring[edge.target] -= 1
            if barring[edge.target] == 0:
                free.append(edge.target)
    return found


def ways_back(graph, at, home):
    return [(edge.step, ARRIVED if edge.target == home else edge.target) for edge in graph.edges[at]]


def first_return(graph):
    """The first order that comes back to a stand on its way: to each stand by its first order, if at all."""
    best = None
    for home in range(len(graph.stands)):
        if best is not None and len(graph.first_order(home)) >= len(best):
            break
        ring = first_way(home, lambda at: ways_back(graph, at, home))
        if ring is not None:
            order = graph.first_order(home) + ring
            if best is None or (len(order), order) < (len(best), best):
                best = order
    return best


def least_behind(graph, place):
    """The pairs (step, (stand, steps asleep)) by which a least order goes on from such a place."""
    at, asleep = place
    edges = {edge.step: edge for edge in graph.edges[at]}
    found = []
    for step in sorted(edges):
        if step not in asleep:
            passed = [other for other in sorted(edges) if other < step or other in asleep]
            left = [other for other in passed if other != step and not do_touch(edges[other], edges[step])]
            found.append((step, (edges[step].target, tuple(left))))
    return found


def least_ways(graph, order):
    """How many whole least orders go on from each place, and the ways to those from which some do."""
    lots = [[] for _ in graph.stands]
    lots[0].append(())
    ways = {}
    for at in order:
        for asleep in list(lots[at]):
            ways[at, asleep] = least_behind(graph, (at, asleep))
            for _, (target, left) in ways[at, asleep]:
                if left not in lots[target]:
                    lots[target].append(left)
    many = {}
    for at in reversed(order):
        for asleep in lots[at]:
            whole = 1 if not graph.edges[at] else 0
            many[at, asleep] = whole + sum([many[target] for _, target in ways[at, asleep]])
    return many, ways


def checked_ways(program):
    graph = graph_of(program)
    order = rising(graph)
    if len(order) < len(graph.stands):
        raise Endless(first_return(graph))
    return least_ways(graph, order)


def how_many(program):
    many, _ = checked_ways(program)
    return many[0, ()]


def whole_orders(program):
    """The pairs (least order, stand), ascending."""
    many, ways = checked_ways(program)
    found = []
    coming = [((), (0, ()))]
    while coming:
        steps, place = coming.pop()
        further = [(steps + (step,), target) for step, target in ways[place] if many[target]]
        if not further and many[place]:
            found.append((steps, place[0]))
        further.reverse()
        coming.extend(further)
    return found


def one_of_each(program):
    return [steps for steps, _ in whole_orders(program)]


def unlike_ends(program):
    found = whole_orders(program)
    for steps, at in found:
        if at != found[0][1]:
            return found[0][0], steps
    return None
