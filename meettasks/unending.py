"""Whether main ends, surely."""

from meettasks.basics import by_choice
from meettasks.fields import checked_kind, unended_field
from meettasks.graphs import graph_of
from meettasks.ranks import are_helpers_in, helpers_in
from meettasks.rings import is_lasso, lasso_in


def field_where(program, kind):
    """Where main has not ended; BadKind."""
    checked_kind(kind)
    return unended_field(graph_of(program))


def never_ends(program, kind):
    return lasso_in(field_where(program, kind), kind)


def is_unending(program, kind, thing):
    return is_lasso(field_where(program, kind), kind, thing)


def end_helpers(program, kind):
    return helpers_in(field_where(program, kind), kind)


def are_end_helpers(program, kind, thing):
    return are_helpers_in(field_where(program, kind), kind, thing)


def left_over(program):
    graph = graph_of(program)
    found = {}
    for at, stand in enumerate(graph.stands):
        if stand.places[0] >= 0 and not graph.edges[at]:
            there = [task for number, task in enumerate(graph.plan.names) if stand.places[number] >= 0]
            found[tuple(sorted(there))] = True
    return by_choice(found)
