"""Stands that can come, and first orders."""

from meettasks.basics import is_pair
from meettasks.bodies import SILENT, deed_at
from meettasks.courses import place_in
from meettasks.errors import BadSpots, NoDeed
from meettasks.graphs import checked_edges, checked_number, graph_of, stand_behind
from meettasks.ways import ARRIVED, first_way


def first_orders(program):
    graph = graph_of(program)
    return [tuple(graph.first_order(at)) for at in range(len(graph.stands))]


def stand_of(program, order):
    return stand_behind(checked_edges(graph_of(program), order))


def steps_at(program, number):
    graph = graph_of(program)
    return [(edge.step, edge.target) for edge in graph.edges[checked_number(graph, number)]]


def is_step_path(program, task, path):
    """Whether a path leads to a deed of a task that is a step."""
    deed = deed_at(program.body(task), path)
    return deed is not None and deed[0] not in SILENT


def is_task(program, thing):
    return isinstance(thing, str) and thing in program.tasks()


def checked_spots(program, spots):
    """The places as run.place tells them, by tasks."""
    if not isinstance(spots, dict):
        raise BadSpots(spots)
    found = {}
    for task in spots:
        place = spots[task]
        if not is_task(program, task):
            raise BadSpots(task)
        if isinstance(place, str) and place in ("absent", "ended"):
            found[task] = place
        elif is_step_path(program, task, place):
            found[task] = tuple(place)
        else:
            raise BadSpots(task)
    return found


def first_at(program, spots):
    wanted = checked_spots(program, spots)
    graph = graph_of(program)
    plan = graph.plan
    for at, stand in enumerate(graph.stands):
        if all([place_in(plan, stand, plan.number[task]) == wanted[task] for task in wanted]):
            return graph.first_order(at)
    return None


def checked_deed(program, thing):
    """The pair (task, path) of a deed that is a step."""
    if not is_pair(thing) or not is_task(program, thing[0]) or not is_step_path(program, thing[0], thing[1]):
        raise NoDeed(thing)
    return thing[0], tuple(thing[1])


def deed_of_step(graph, at, step):
    """Whose deed a step at a stand is of, and where it stands."""
    plan = graph.plan
    return step[0], place_in(plan, graph.stands[at], plan.number[step[0]])


def order_without(program, one, other):
    barred = checked_deed(program, one)
    wanted = checked_deed(program, other)
    if barred == wanted:
        return None
    graph = graph_of(program)
    return first_way(0, lambda at: ways_without(graph, at, barred, wanted))


def ways_without(graph, at, barred, wanted):
    found = []
    for edge in graph.edges[at]:
        deed = deed_of_step(graph, at, edge.step)
        if deed != barred:
            found.append((edge.step, ARRIVED if deed == wanted else edge.target))
    return found
