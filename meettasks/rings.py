"""Endless orders in a field: some steps, and then a ring that is gone round again and again, or nothing."""

from meettasks.basics import is_list, is_pair
from meettasks.fields import pieces
from meettasks.graphs import edges_along, stand_behind
from meettasks.ways import ARRIVED, first_way


def inner_edges(field, stands):
    """The pairs (stand, edge) of all edges of a field within some of its stands."""
    inside = {at: True for at in stands}
    return [(at, edge) for at in stands for edge in field.goes[at] if edge.target in inside]


def starved_task(field, stands, edges):
    """The first task that has steps at each of the stands and does none of the edges, or None."""
    doing = {edge.step[0]: True for _, edge in edges}
    for task in field.doers_at(stands[0]):
        if task not in doing and all([task in field.doers_at(at) for at in stands]):
            return task
    return None


def missed_arm(field, stands, edges):
    """The first arm that can be taken at some of the stands and is taken by none of the edges, or None."""
    taken = {field.arm_of(at, edge.step): True for at, edge in edges}
    missed = [arm for at in stands for arm in field.arms_at(at) if arm not in taken]
    return min(missed) if missed else None


def is_of_kind(field, kind, stands, edges):
    if kind != "any" and starved_task(field, stands, edges) is not None:
        return False
    return kind != "strong" or missed_arm(field, stands, edges) is None


def good_piece(field, kind):
    """Stands round all of which an endless order of the kind can go, or None."""
    lots = [field.members]
    while lots:
        lot = lots.pop(0)
        for piece in pieces(lot, field.goes):
            edges = inner_edges(field, piece)
            if edges and is_of_kind(field, kind, piece, edges):
                return piece
            # With a missed arm some part without it may do; a starved task is starved in each part.
            if edges and kind == "strong" and starved_task(field, piece, edges) is None:
                arm = missed_arm(field, piece, edges)
                lots.append([at for at in piece if arm not in field.arms_at(at)])
    return None


def way_inside(field, piece, start, goal):
    """The first way from a stand to another one of the piece, as edges."""
    if start == goal:
        return []
    edges = inner_edges(field, piece)
    steps = first_way(start, lambda at: [
        (edge.step, ARRIVED if edge.target == goal else edge.target) for source, edge in edges if source == at])
    return edges_along(field.graph, start, steps)


def wanted_edges(field, kind, piece):
    """Edges that a ring has to have, as pairs (stand, edge): a first one, and what the kind asks for."""
    edges = inner_edges(field, piece)
    found = [edges[0]]
    if kind != "any":
        for task in field.graph.plan.names:
            found.extend([pair for pair in edges if pair[1].step[0] == task][:1])
    if kind == "strong":
        for arm in sorted({field.arm_of(at, edge.step) for at, edge in edges if edge.step[1] == "arm"}):
            found.extend([(at, edge) for at, edge in edges if field.arm_of(at, edge.step) == arm][:1])
    return found


def wanted_stands(field, kind, piece):
    """Stands that a ring has to come to: for each task that does nothing in the piece one at which it has no step."""
    if kind == "any":
        return []
    doing = {edge.step[0]: True for _, edge in inner_edges(field, piece)}
    found = []
    for task in field.graph.plan.names:
        if task not in doing:
            found.extend([at for at in piece if task not in field.doers_at(at)][:1])
    return found


def ring_in(field, kind, piece):
    """A ring from the first stand of the piece on that has all that the kind asks for."""
    home = piece[0]
    at = home
    found = []
    for source, edge in wanted_edges(field, kind, piece):
        if edge not in found:
            found = found + way_inside(field, piece, at, source) + [edge]
            at = edge.target
    for stand in wanted_stands(field, kind, piece) + [home]:
        found = found + way_inside(field, piece, at, stand)
        at = stand
    return [edge.step for edge in found]


def lasso_in(field, kind):
    """A pair (steps, ring) of an endless order of the kind, or None."""
    for at in field.members:
        if not field.edges_at(at):
            return field.graph.first_order(at), []
    piece = good_piece(field, kind)
    if piece is None:
        return None
    return field.graph.first_order(piece[0]), ring_in(field, kind, piece)


def is_lasso(field, kind, thing):
    """Whether any object is such a pair."""
    if not is_pair(thing) or not is_list(thing[0]) or not is_list(thing[1]):
        return False
    steps, ring = thing
    ahead = edges_along(field.graph, 0, steps)
    at = stand_behind(ahead)
    if len(ahead) < len(steps) or at not in field.goes:
        return False
    if not ring:
        return not field.edges_at(at)
    around = edges_along(field.graph, at, ring)
    if len(around) < len(ring) or around[-1].target != at:
        return False
    stands = [at] + [edge.target for edge in around[:-1]]
    edges = [(stands[place], edge) for place, edge in enumerate(around)]
    if not all([source in field.goes and edge in field.goes[source] for source, edge in edges]):
        return False
    return is_of_kind(field, kind, stands, edges)
