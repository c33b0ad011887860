"""Who is stuck, and standstills."""

from meettasks.fields import does_move, is_waiting, reached
from meettasks.graphs import graph_from, graph_of
from meettasks.programs import known_task


def moves_anywhere(graph, at, number):
    """Whether some step at a stand moves a task."""
    return any([does_move(graph, at, edge, number) for edge in graph.edges[at]])


def is_stuck(graph, at, number):
    if not is_waiting(graph, at, number):
        return False
    targets = [[edge.target for edge in edges] for edges in graph.edges]
    return not any([moves_anywhere(graph, there, number) for there in reached([at], targets, {})])


def stuck(run):
    graph, at = graph_from(run.course)
    tasks = graph.plan.names
    return sorted([task for number, task in enumerate(tasks) if is_stuck(graph, at, number)])


def first_stuck(program, task):
    known_task(program, task)
    graph = graph_of(program)
    number = graph.plan.number[task]
    sources = [[] for _ in graph.stands]
    for at, edges in enumerate(graph.edges):
        for edge in edges:
            sources[edge.target].append(at)
    free = {}
    reached([at for at in range(len(graph.stands)) if moves_anywhere(graph, at, number)], sources, free)
    for at in range(len(graph.stands)):
        if at not in free and is_waiting(graph, at, number):
            return graph.first_order(at)
    return None


def first_standstill(program):
    graph = graph_of(program)
    for at, stand in enumerate(graph.stands):
        if stand.places[0] >= 0 and not graph.edges[at]:
            return graph.first_order(at)
    return None
