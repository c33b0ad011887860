"""Who is stuck, and standstills."""

from meettasks.fields import does_move, is_waiting
from meettasks.graphs import graph_of, graph_from
from meettasks.programs import known_task


def stands_from(graph, at):
    """All stands to which a stand leads, itself included."""
    found = {at: True}
    coming = [at]
    while coming:
        there = coming.pop()
        for edge in graph.edges[there]:
            if edge.target not in found:
                found[edge.target] = True
                coming.append(edge.target)
    return list(found)


def is_stuck(graph, at, number):
    if not is_waiting(graph, at, number):
        return False
    return not any([does_move(graph, there, edge, number)
                    for there in stands_from(graph, at) for edge in graph.edges[there]])


def stuck(run):
    graph, at = graph_from(run.course)
    tasks = graph.plan.names
    return sorted([task for number, task in enumerate(tasks) if is_stuck(graph, at, number)])


def first_stuck(program, task):
    known_task(program, task)
    graph = graph_of(program)
    number = graph.plan.number[task]
    moving = [at for at in range(len(graph.stands))
              if any([does_move(graph, at, edge, number) for edge in graph.edges[at]])]
    ahead = [[] for _ in graph.stands]
    for at, edges in enumerate(graph.edges):
        for edge in edges:
            ahead[edge.target].append(at)
    free = {at: True for at in moving}
    while moving:
        there = moving.pop()
        for at in ahead[there]:
            if at not in free:
                free[at] = True
                moving.append(at)
    for at in range(len(graph.stands)):
        if at not in free and is_waiting(graph, at, number):
            return graph.first_order(at)
    return None


def first_standstill(program):
    graph = graph_of(program)
    for at, stand in enumerate(graph.stands):
        if stand.places[0] >= 0 and not graph.edges[at]:
            return graph.first_order(at)
    return None
