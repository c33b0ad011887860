"""Lines of logs as anybody may pass them: events, and gaps."""

from meettasks.basics import is_integer, is_list, is_word
from meettasks.errors import BadEvent, BadGap, BadLog
from meettasks.eventspots import KINDS

WORDS_BEHIND = {"note": 2, "meets": 3, "apart": 3, "broken": 3, "served": 3, "ended": 1}


def as_event(thing):
    """An event as it is told, None for any object that is none by its form."""
    if not is_list(thing) or not thing or not isinstance(thing[0], str) or thing[0] not in KINDS:
        return None
    if len(thing) != WORDS_BEHIND[thing[0]] + 1 or not all([is_word(word) for word in thing[1:]]):
        return None
    return tuple(thing)


def is_many(thing):
    return thing is None or is_integer(thing) and thing >= 0


def as_line(thing):
    """A line as it is told, None for any object that is none."""
    if is_list(thing) and len(thing) == 2 and isinstance(thing[0], str) and thing[0] == "gap":
        return ("gap", thing[1]) if is_many(thing[1]) else None
    return as_event(thing)


def checked_log(log):
    """The lines as they are told; BadLog for the first that is none."""
    if not is_list(log):
        raise BadLog(0)
    found = []
    for index, thing in enumerate(log):
        line = as_line(thing)
        if line is None:
            raise BadLog(index)
        found.append(line)
    return found


def checked_gap(lines, number):
    """The index of the line of a gap, gaps counted from 0."""
    gaps = [index for index, line in enumerate(lines) if line[0] == "gap"]
    if not is_integer(number) or not 0 <= number < len(gaps):
        raise BadGap(number)
    return gaps[number]


def checked_event(thing):
    event = as_event(thing)
    if event is None:
        raise BadEvent(thing)
    return event
