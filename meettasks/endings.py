"""Ending together: who bars a closing task's end, and who would end."""

from meettasks.courses import how_at
from meettasks.errors import NotClosing
from meettasks.plans import plan_of
from meettasks.programs import known_task
from meettasks.steps import is_at_end_offer, is_ready_to_end


def nest_below(run, task):
    """All that a closing task began in its nest, at any depth; NoTask, NotClosing."""
    course = run.course
    plan = plan_of(course.owner)
    number = plan.number[known_task(course.owner, task)]
    if how_at(course, task) != "closing":
        raise NotClosing(task)
    return plan.spots[number][course.stand.places[number]].what.below


def bars(run, task):
    below = nest_below(run, task)
    plan = plan_of(run.course.owner)
    stand = run.course.stand
    return sorted([plan.names[one] for one in below if not is_ready_to_end(plan, stand, one)])


def ending(run, task):
    below = nest_below(run, task)
    plan = plan_of(run.course.owner)
    stand = run.course.stand
    return sorted([plan.names[one] for one in below if is_at_end_offer(plan, stand, one)])
