"""Logs with gaps: what runs they can be of."""

from meettasks.basics import is_list
from meettasks.logforms import as_line, checked_log
from meettasks.logspots import log_spots
from meettasks.logways import first_run, log_ways


def is_log(thing):
    return is_list(thing) and all([as_line(line) is not None for line in thing])


def fitting_run(program, log):
    lines = checked_log(log)
    if not log_spots(program).lots_along(lines)[-1]:
        return None
    ways = log_ways(program)
    last = ways.last_stage()
    return first_run(ways, ways.ahead_of_lines(last, lines), last)


def first_misfit(program, log):
    lots = log_spots(program).lots_along(checked_log(log))
    return lots.index(0) - 1 if lots[-1] == 0 else None


def stands_behind(program, log):
    places = log_spots(program)
    return len(places.stands_in(places.lots_along(checked_log(log))[-1]))
