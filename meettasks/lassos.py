"""Who can wait for ever, in which endless orders."""

from meettasks.fields import checked_kind, waiting_field
from meettasks.graphs import graph_of
from meettasks.programs import known_task
from meettasks.rings import is_lasso, lasso_in


def field_of(program, task, kind):
    """Where a task waits; NoTask, then BadKind."""
    known_task(program, task)
    checked_kind(kind)
    graph = graph_of(program)
    return waiting_field(graph, graph.plan.number[task], ())


def waits_for_ever(program, task, kind):
    return lasso_in(field_of(program, task, kind), kind)


def is_wait(program, task, kind, thing):
    return is_lasso(field_of(program, task, kind), kind, thing)
