"""Stretches of a task's text: whether their steps can be brought side by side in all orders."""

from meettasks.basics import is_integer, is_list
from meettasks.bodies import bodies_in, deed_at
from meettasks.errors import BadStretch
from meettasks.graphs import graph_of
from meettasks.standing import is_task
from meettasks.ways import ARRIVED, first_way

BARRED = ("leave", "again", "nest")


def is_plain(deed):
    """Whether neither it nor a deed in it is barred from stretches."""
    if deed[0] in BARRED:
        return False
    return all([is_plain(inner) for body in bodies_in(deed) for inner in body])


def is_stretch(program, thing):
    if not is_list(thing) or len(thing) != 3 or not is_task(program, thing[0]):
        return False
    task, path, many = thing
    body = program.body(task)
    if not is_integer(many) or many < 2 or deed_at(body, path) is None:
        return False
    head = tuple(path[:-1])
    # The last deed first: a number far beyond the body ends it at once.
    if deed_at(body, head + (path[-1] + many - 1,)) is None:
        return False
    return all([is_plain(deed_at(body, head + (path[-1] + at,))) for at in range(many)])


class Passing:
    """Follows the passes of a stretch along edges.

    A place is a stand and four lots of parts: those written and asked by steps of the pass, with steps that
    follow them by the task alone; those written and asked by steps of other tasks, and by what follows these.
    """

    def __init__(self, graph, task, path, many):
        self.graph = graph
        self.task = task
        self.number = graph.plan.number[task]
        self.head = path[:-1]
        self.lowest = path[-1]
        self.many = many

    def is_inside(self, place):
        """Whether a spot of the task lies in the stretch."""
        if place < 0:
            return False
        path = self.graph.plan.spots[self.number][place].path
        deep = len(self.head)
        return len(path) > deep and path[:deep] == self.head and 0 <= path[deep] - self.lowest < self.many

    def is_over(self, edge):
        """Whether the task leaves the stretch by the step, even if it comes into it again, or ends."""
        trail = [place for task, place in edge.trail if task == self.number]
        if not all([self.is_inside(place) for place in trail]):
            return True
        return not self.is_inside(self.graph.stands[edge.target].places[self.number])

    def ways(self, place):
        return [(edge.step, self.behind(place, edge)) for edge in self.graph.edges[place[0]]]

    def behind(self, place, edge):
        at, written, asked, far_written, far_asked = place
        far = touches(far_written, far_asked, edge)
        if edge.step[0] == self.task:
            if far:
                return ARRIVED
            if self.is_inside(self.graph.stands[at].places[self.number]):
                written |= edge.written
                asked |= edge.asked
        elif far or touches(written, asked, edge):
            far_written |= edge.written
            far_asked |= edge.asked
        if self.is_over(edge):
            return edge.target, 0, 0, 0, 0
        return edge.target, written, asked, far_written, far_asked


def touches(written, asked, edge):
    return written & (edge.written | edge.asked) != 0 or asked & edge.written != 0


def crossing(program, stretch):
    if not is_stretch(program, stretch):
        raise BadStretch(stretch)
    task, path, many = stretch
    passing = Passing(graph_of(program), task, tuple(path), many)
    return first_way((0, 0, 0, 0, 0), lambda place: passing.ways(place))
