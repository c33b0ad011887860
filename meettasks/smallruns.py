"""All stands of code that can come, steps at them, and what happens along its orders."""

from meettasks.graphs import checked_edges, checked_number
from meettasks.smallplans import small_graph
from meettasks.steps import first_stand


def small_orders(code):
    graph = small_graph(code)
    return [tuple(graph.first_order(at)) for at in range(len(graph.stands))]


def small_steps(code, number):
    graph = small_graph(code)
    return [(edge.step, edge.target) for edge in graph.edges[checked_number(graph, number)]]


def small_events(code, order):
    graph = small_graph(code)
    found = list(first_stand(graph.plan).told)
    for edge in checked_edges(graph, order):
        found.extend(edge.told)
    return found
