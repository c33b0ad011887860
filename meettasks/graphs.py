"""All stands that can come, numbered by their first orders, and the steps between them."""

from meettasks.basics import by_choice, is_integer, is_list
from meettasks.courses import all_steps, doing_of, struck_behind
from meettasks.errors import BadOrder, NoStand
from meettasks.plans import plan_of
from meettasks.steps import as_step, first_stand


class Edge:
    """A step at a stand: where it leads, what it writes and asks (a bit for each part), and what happens."""

    def __init__(self, step, doing, target):
        self.step = step
        self.target = target
        self.written = doing.written
        self.asked = doing.asked
        self.told = doing.told
        self.trail = doing.trail


class Graph:
    """Stands by numbers; edges of each as run.let() tells its steps."""

    def __init__(self, program, strikable, stand):
        self.plan = plan_of(program)
        self.strikable = strikable
        self.stands = []
        self.strucks = []
        self.parents = []
        self.edges = []
        self.places = {}
        self.put_stand(stand, (), None)
        at = 0
        while at < len(self.stands):
            self.edges.append(self.edges_at(at))
            at += 1

    def put_stand(self, stand, struck, parent):
        self.places[stand.key, struck] = len(self.stands)
        self.stands.append(stand)
        self.strucks.append(struck)
        self.parents.append(parent)

    def edges_at(self, at):
        """The edges from a stand; stands that were not met before are numbered as the steps compare."""
        found = {}
        steps = all_steps(self.plan, self.strikable, self.stands[at], self.strucks[at])
        for step in sorted(steps):
            doing = doing_of(self.plan, self.stands[at], step)
            stand = doing.made()
            struck = struck_behind(self.plan, self.strucks[at], step)
            if (stand.key, struck) not in self.places:
                self.put_stand(stand, struck, (at, step))
            found[step] = Edge(step, doing, self.places[stand.key, struck])
        return [found[step] for step in steps]

    def first_order(self, at):
        """The steps of the first order to a stand."""
        steps = []
        while self.parents[at] is not None:
            at, step = self.parents[at]
            steps.append(step)
        steps.reverse()
        return steps

    def edge(self, at, step):
        """The edge of a step, None for any step that cannot be done."""
        for edge in self.edges[at]:
            if edge.step == step:
                return edge
        return None


def graph_of(program, strikable=()):
    if ("graph", strikable) not in program.kept:
        program.kept["graph", strikable] = Graph(program, strikable, first_stand(plan_of(program)).made())
    return program.kept["graph", strikable]


def graph_from(course):
    """A graph that has the stand of a course, and its number there; strikes are no steps of it."""
    graph = graph_of(course.owner)
    place = (course.stand.key, ())
    if place in graph.places:
        return graph, graph.places[place]
    return Graph(course.owner, (), course.stand), 0


def edges_along(graph, at, steps):
    """The edges of steps from a stand on, up to the first that cannot be done there."""
    found = []
    for thing in steps:
        step = as_step(thing)
        edge = None if step is None else graph.edge(at, step)
        if edge is None:
            break
        found.append(edge)
        at = edge.target
    return found


def checked_edges(graph, order):
    """The edges of an order; BadOrder for the first step that cannot be done."""
    if not is_list(order):
        raise BadOrder(0)
    found = edges_along(graph, 0, order)
    if len(found) < len(order):
        raise BadOrder(len(found))
    return found


def stand_behind(edges):
    return edges[-1].target if edges else 0


def checked_number(graph, number):
    if not is_integer(number) or not 0 <= number < len(graph.stands):
        raise NoStand(number)
    return number


def named_lots(plan, lots):
    """Lots of tasks as ascending tuples of their words, in the order of choices."""
    return by_choice([tuple(sorted([plan.names[task] for task in lot])) for lot in lots])
