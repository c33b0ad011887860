"""Fields: those stands, and steps between them, along which something waits, or does not end."""

from meettasks.courses import place_in
from meettasks.errors import BadKind

KINDS = ("any", "weak", "strong")


def checked_kind(kind):
    if not isinstance(kind, str) or kind not in KINDS:
        raise BadKind(kind)
    return kind


class Field:
    """Stands of a graph, ascending, with the edges within, by stands."""

    def __init__(self, graph, members, goes):
        self.graph = graph
        self.members = members
        self.goes = goes

    def edges_at(self, at):
        """The edges of all steps that can be done at a stand, strikes aside."""
        return [edge for edge in self.graph.edges[at] if edge.step[1] != "struck"]

    def doers_at(self, at):
        """The tasks that have steps at a stand, in their order."""
        found = {}
        for edge in self.edges_at(at):
            found[edge.step[0]] = True
        return list(found)

    def arm_of(self, at, step):
        """The arm (task, path, number) that a step at a stand takes, None if it takes none."""
        if step[1] != "arm":
            return None
        plan = self.graph.plan
        return step[0], place_in(plan, self.graph.stands[at], plan.number[step[0]]), step[2]

    def arms_at(self, at):
        """The arms that can be taken at a stand."""
        steps = [edge.step for edge in self.edges_at(at) if edge.step[1] == "arm"]
        return [self.arm_of(at, step) for step in steps]


def is_waiting(graph, at, number):
    """Whether a task waits at a stand: it is there, has not ended, and has no step."""
    name = graph.plan.names[number]
    return graph.stands[at].places[number] >= 0 and not any([edge.step[0] == name and edge.step[1] != "struck"
                                                            for edge in graph.edges[at]])


def does_move(graph, at, edge, number):
    """Whether a step at a stand moves a task."""
    here = graph.stands[at]
    there = graph.stands[edge.target]
    if edge.step[0] == graph.plan.names[number]:
        return True
    return here.places[number] != there.places[number] or here.modes[number] != there.modes[number]


def waiting_field(graph, number, struck):
    """Where a task waits, just these being struck, and the steps, none a strike, that leave it unmoved."""
    members = [at for at in range(len(graph.stands))
               if graph.strucks[at] == struck and is_waiting(graph, at, number)]
    inside = {at: True for at in members}
    goes = {at: [edge for edge in graph.edges[at] if edge.step[1] != "struck" and edge.target in inside
                 and not does_move(graph, at, edge, number)] for at in members}
    return Field(graph, members, goes)


def unended_field(graph):
    """Where main has not ended, and the steps behind which it has not."""
    members = [at for at in range(len(graph.stands)) if graph.stands[at].places[0] >= 0]
    inside = {at: True for at in members}
    goes = {at: [edge for edge in graph.edges[at] if edge.target in inside] for at in members}
    return Field(graph, members, goes)


def pieces(members, goes):
    """The greatest pieces of stands that lead to one another; none leads to one that comes behind it in the list."""
    inside = {at: True for at in members}
    ahead = {at: [] for at in members}
    for at in members:
        for edge in goes[at]:
            if edge.target in inside:
                ahead[edge.target].append(at)
    order = finishing(members, {at: [edge.target for edge in goes[at] if edge.target in inside] for at in members})
    order.reverse()
    seen = {}
    found = []
    for at in order:
        if at not in seen:
            found.append(sorted(reached([at], ahead, seen)))
    found.reverse()
    return found


def finishing(members, targets):
    """The stands in the order in which a walk down all ways is done with them."""
    seen = set()
    order = []
    for start in members:
        coming = [(start, False)]
        while coming:
            at, done = coming.pop()
            if done:
                order.append(at)
            elif at not in seen:
                seen.add(at)
                coming.append((at, True))
                coming.extend([(target, False) for target in targets[at]])
    return order


def reached(starts, targets, seen):
    """All that can be come to from some starts but what was seen; seen is added to."""
    found = []
    coming = list(starts)
    while coming:
        at = coming.pop()
        if at not in seen:
            seen[at] = True
            found.append(at)
            coming.extend(targets[at])
    return found
