"""Whose strikes can make a task wait for ever."""

from meettasks.basics import first_bad_word, is_list, least_lots
from meettasks.courses import checked_strikable
from meettasks.errors import BadTasks
from meettasks.fields import checked_kind, waiting_field
from meettasks.graphs import graph_of, named_lots
from meettasks.programs import known_task
from meettasks.rings import is_lasso, lasso_in


def checked_graph(program, strikable, task, kind):
    """The graph with strikes; BadTasks, NoTask, BadKind."""
    numbers = checked_strikable(program, strikable)
    known_task(program, task)
    checked_kind(kind)
    return graph_of(program, numbers)


def harms(program, strikable, task, kind):
    graph = checked_graph(program, strikable, task, kind)
    number = graph.plan.number[task]
    others = [one for one in graph.strikable if one != number]
    lots = least_lots(others, lambda lot: lasso_in(waiting_field(graph, number, lot), kind) is not None)
    return named_lots(graph.plan, lots)


def field_of_lot(program, strikable, task, kind, lot):
    """Where the task waits, just this lot being struck."""
    graph = checked_graph(program, strikable, task, kind)
    if not is_list(lot):
        raise BadTasks(0)
    wrong = first_bad_word(lot, strikable)
    if wrong is not None:
        raise BadTasks(wrong)
    numbers = sorted([graph.plan.number[one] for one in lot])
    return waiting_field(graph, graph.plan.number[task], tuple(numbers))


def harmed(program, strikable, task, kind, lot):
    return lasso_in(field_of_lot(program, strikable, task, kind, lot), kind)


def is_harm(program, strikable, task, kind, lot, thing):
    return is_lasso(field_of_lot(program, strikable, task, kind, lot), kind, thing)
