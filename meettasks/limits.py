"""Limits of waiting: the least by which nobody is late, and those that are idle."""

from meettasks.distances import happening_bounds
from meettasks.errors import NoDeed
from meettasks.fates import checked_pair, kept_courses
from meettasks.timed import Timed, timed_plan
from meettasks.timedbodies import MEETINGS


def limit_place(deed):
    """Which part of a call or take its limit is."""
    return 3 if deed[0] == "call" else 2


def without_limit(body, path):
    """A body in which the call or take at a path has no limit."""
    number = path[0]
    deed = body[number]
    if len(path) == 1:
        place = limit_place(deed)
        changed = deed[:place] + (None,) + deed[place + 1:]
    else:
        changed = deed[:-1] + (without_limit(deed[-1], path[2:]),)
    return body[:number] + (changed,) + body[number + 1:]


def spot_at(timed, pair):
    plan = timed_plan(timed)
    return plan.spots[plan.number[pair[0]]][plan.places[pair]]


def longest_ahead(bounds, pair):
    """The longest that a call or take waits, having come ahead of whom it meets; -1 if it does not."""
    if pair not in bounds.later:
        return -1
    least, _ = bounds.least_from(pair)
    return least[bounds.later[pair]]


def least_limit(timed, task, path):
    pair = checked_pair(timed, task, path)
    if spot_at(timed, pair).kind not in MEETINGS:
        raise NoDeed(path)
    tasks = timed.tasks()
    tasks[task] = without_limit(tasks[task], pair[1])
    longest = -1
    for bounds in happening_bounds(Timed(tasks)):
        if bounds.fates.get(pair) == ("stays",):
            return None
        longest = max(longest, longest_ahead(bounds, pair))
    return longest + 1


def idle_limits(timed):
    late = {row[:2]: True for told in kept_courses(timed) for row in told if row[2] == ("late",)}
    found = []
    for spots in timed_plan(timed).spots:
        found.extend([spot.pair for spot in spots
                      if spot.kind in MEETINGS and spot.limit() is not None and spot.pair not in late])
    return sorted(found)
