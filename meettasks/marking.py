"""Marks of deeds inside which a task is not to be ended by others, and all stands that come with some."""

from meettasks.basics import is_list, is_pair
from meettasks.bodies import bodies_in, deed_at
from meettasks.errors import BadMarks
from meettasks.graphs import graph_of
from meettasks.steps import is_at_end_offer
from meettasks.ways import way_to


def as_mark(program, thing):
    """A mark as it is told, None for any object that is none."""
    if not is_pair(thing) or not isinstance(thing[0], str) or thing[0] not in program.tasks():
        return None
    deed = deed_at(program.body(thing[0]), thing[1])
    if deed is None or not bodies_in(deed):
        return None
    return thing[0], tuple(thing[1])


def checked_marks(program, marks):
    """The marks as they are told; BadMarks for the first that is none, or stood before."""
    if not is_list(marks):
        raise BadMarks(0)
    found = []
    for index, thing in enumerate(marks):
        mark = as_mark(program, thing)
        if mark is None or mark in found:
            raise BadMarks(index)
        found.append(mark)
    return found


def ended_by(plan, stand, step):
    """The numbers of the tasks that an abort, or an ending together, would end."""
    if step[1] not in ("abort", "ends"):
        return []
    task = plan.number[step[0]]
    what = plan.spots[task][stand.places[task]].what
    if step[1] == "ends":
        return [one for one in what.below if is_at_end_offer(plan, stand, one)]
    if stand.places[what] < 0:
        return []
    return [one for one in (what,) + plan.below[what] if stand.places[one] >= 0]


def is_below(path, mark):
    return len(path) > len(mark) and path[:len(mark)] == mark


class Walk:
    """The stands of a graph that come with marks, in the order of their first rows, steps being as let() tells."""

    def __init__(self, graph, marks):
        self.graph = graph
        self.inner = [[path for task, path in marks if task == name] for name in graph.plan.names]
        self.parents = {0: None}
        self.order = [0]
        self.goes = {}
        at = 0
        while at < len(self.order):
            self.put_edges(self.order[at])
            at += 1

    def put_edges(self, at):
        self.goes[at] = [edge for edge in self.graph.edges[at] if not self.is_barred(at, edge.step)]
        for edge in self.goes[at]:
            if edge.target not in self.parents:
                self.parents[edge.target] = (at, edge.step)
                self.order.append(edge.target)

    def is_inside(self, at, task):
        """Whether a task that is there is inside a mark of its own."""
        place = self.graph.stands[at].places[task]
        path = self.graph.plan.spots[task][place].path
        return any([is_below(path, mark) for mark in self.inner[task]])

    def is_barred(self, at, step):
        return any([self.is_inside(at, task) for task in ended_by(self.graph.plan, self.graph.stands[at], step)])

    def row_to(self, at):
        """The first row of steps to a stand."""
        return way_to(self.parents, at)


def walk_with(program, marks):
    return Walk(graph_of(program), marks)
