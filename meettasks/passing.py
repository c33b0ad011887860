"""How often a task in a row can be passed by."""

from meettasks.basics import is_integer
from meettasks.doing import IN_ROW
from meettasks.errors import BadMany
from meettasks.fields import pieces
from meettasks.graphs import graph_of
from meettasks.programs import known_task
from meettasks.ranks import worths_by_stands
from meettasks.ways import ARRIVED, first_way


class Staying:
    """The stands at which a task is in a row, and the edges that leave it there, with how often each passes it."""

    def __init__(self, program, task):
        self.task = known_task(program, task)
        self.graph = graph_of(program)
        self.number = self.graph.plan.number[task]
        self.members = [at for at in range(len(self.graph.stands)) if self.is_in_row(at)]
        self.goes = {at: [edge for edge in self.graph.edges[at] if self.is_in_row(edge.target)]
                     for at in self.members}

    def is_in_row(self, at):
        return self.graph.stands[at].modes[self.number] == IN_ROW

    def row_owner(self, at):
        """The task or thing in whose row it is at a stand."""
        plan = self.graph.plan
        spot = plan.spots[self.number][self.graph.stands[at].places[self.number]]
        return plan.names[spot.what[0]] if spot.kind == "call" else plan.thing_names[spot.what[0]]

    def passes(self, at, edge):
        """How often the task is passed by a step that leaves it in its row."""
        owner = self.row_owner(at)
        return len([event for event in edge.told
                    if event[0] in ("meets", "served") and event[1] != self.task and event[2] == owner])


def least_bounds(staying):
    """The least bounds by stands, None if there are none."""
    bounds = {}
    for piece in pieces(staying.members, staying.goes):
        best = 0
        for at in piece:
            for edge in staying.goes[at]:
                many = staying.passes(at, edge)
                if edge.target in piece and many:
                    return None
                if edge.target not in piece:
                    best = max(best, bounds[edge.target] + many)
        for at in piece:
            bounds[at] = best
    return bounds


def most_passed(program, task):
    bounds = least_bounds(Staying(program, task))
    if bounds is None:
        return None
    return max([0] + [bounds[at] for at in bounds])


def passing_ways(staying, place, many):
    """The ways from a place: a stand, and how often the task was passed in its row (0 if it is in none)."""
    at, passed = place
    found = []
    for edge in staying.graph.edges[at]:
        further = 0
        if staying.is_in_row(at) and staying.is_in_row(edge.target):
            further = min(many, passed + staying.passes(at, edge))
        here = staying.is_in_row(edge.target) and further >= many
        found.append((edge.step, ARRIVED if here else (edge.target, further)))
    return found


def passing_run(program, task, many):
    staying = Staying(program, task)
    if not is_integer(many) or many < 0:
        raise BadMany(many)
    return first_way((0, 0), lambda place: passing_ways(staying, place, many))


def are_bounds(program, task, thing):
    staying = Staying(program, task)
    bounds = worths_by_stands(staying.graph, staying.members, thing)
    if bounds is None or not all([is_integer(bounds[at]) and bounds[at] >= 0 for at in bounds]):
        return False
    return all([bounds[edge.target] <= bounds[at] - staying.passes(at, edge)
                for at in staying.members for edge in staying.goes[at]])
