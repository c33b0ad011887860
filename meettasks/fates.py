"""The fates of calls and takes in all courses."""

from meettasks.basics import is_path
from meettasks.differences import Bounds
from meettasks.errors import BadFates, NoDeed, NoTask
from meettasks.meetings import fates_by, lawful_lists
from meettasks.timed import as_fates, timed_plan, told_fates
from meettasks.timedbodies import MEETINGS


def all_courses(timed):
    """By all fates that courses have, ascending, the moments of one that has them."""
    plan = timed_plan(timed)
    found = {}
    for events in lawful_lists(plan):
        fates = fates_by(plan, events)
        told = told_fates(fates)
        if told not in found:
            moments = Bounds(plan, events, fates).moments()
            if moments is not None:
                found[told] = moments
    return {told: found[told] for told in sorted(found)}


def kept_courses(timed):
    if "courses" not in timed.kept:
        timed.kept["courses"] = all_courses(timed)
    return timed.kept["courses"]


def all_fates(timed):
    return list(kept_courses(timed))


def course_with(timed, fates):
    courses = kept_courses(timed)
    told = as_fates(fates)
    if told is None or told not in courses:
        raise BadFates(fates)
    moments = courses[told]
    return told, {pair: moments[pair] for pair in sorted(moments)}


def checked_pair(timed, task, path):
    """The pair (task, path) of a deed; NoTask, then NoDeed."""
    if not isinstance(task, str) or task not in timed.tasks():
        raise NoTask(task)
    if not is_path(path) or len(path) == 0 or (task, tuple(path)) not in timed_plan(timed).places:
        raise NoDeed(path)
    return task, tuple(path)


def all_some_none(truths):
    """Whether all of them, none, or just some are True."""
    if all(truths):
        return "sure"
    return "open" if any(truths) else "never"


def come_to(timed, task, path):
    pair = checked_pair(timed, task, path)
    courses = kept_courses(timed)
    return all_some_none([pair in courses[told] for told in courses])


def is_late(timed, task, path):
    pair = checked_pair(timed, task, path)
    plan = timed_plan(timed)
    if plan.spots[plan.number[task]][plan.places[pair]].kind not in MEETINGS:
        raise NoDeed(path)
    fates = [row[2] for told in kept_courses(timed) for row in told if row[:2] == pair]
    return all_some_none([fate == ("late",) for fate in fates]) if fates else None
