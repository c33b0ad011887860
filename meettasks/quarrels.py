"""Which lines of a log cannot be true together, and which of them have to be doubted."""

from meettasks.basics import least_lots
from meettasks.logforms import checked_log
from meettasks.logspots import log_spots

LOST = ("gap", 1)


def does_fit_keeping(program, lines, kept):
    """Whether some run fits the lines, those that are events and not kept being lost ones."""
    told = [line if line[0] == "gap" or index in kept else LOST for index, line in enumerate(lines)]
    return log_spots(program).lots_along(told)[-1] != 0


def event_lines(lines):
    return [index for index, line in enumerate(lines) if line[0] != "gap"]


def quarrels(program, log):
    lines = checked_log(log)
    return least_lots(event_lines(lines), lambda lot: not does_fit_keeping(program, lines, lot))


def doubted(program, log):
    lines = checked_log(log)
    events = event_lines(lines)
    return least_lots(events, lambda lot: does_fit_keeping(
        program, lines, [index for index in events if index not in lot]))
