"""Orders in which timed tasks come to calls and takes, and are late, and what they set for the moments."""

from meettasks.basics import is_list, is_path
from meettasks.differences import Bounds
from meettasks.errors import BadCourse, NoComing
from meettasks.meetings import fates_by, first_meeting
from meettasks.timed import timed_plan, told_fates


def as_happening(thing):
    """A triple of an order as it is told, None for any object that is none by its form."""
    if not is_list(thing) or len(thing) != 3 or not isinstance(thing[0], str) or not is_path(thing[1]):
        return None
    return (thing[0], tuple(thing[1]), thing[2]) if isinstance(thing[2], str) else None


def event_by(plan, meeting, happening):
    """The event of a triple that can come next, and where all are behind it; None if it cannot."""
    for event, further in meeting.ways():
        if plan.spots[event.task][event.at].pair + (event.word,) == happening:
            return event, further
    return None


def lawful_events(timed, thing):
    """The events of a lawful list, None for any object that is none."""
    if not is_list(thing):
        return None
    plan = timed_plan(timed)
    meeting = first_meeting(plan)
    events = ()
    for row in thing:
        happening = as_happening(row)
        way = None if happening is None else event_by(plan, meeting, happening)
        if way is None:
            return None
        events = events + (way[0],)
        meeting = way[1]
    return None if meeting.ways() else events


def is_lawful(timed, thing):
    return lawful_events(timed, thing) is not None


def bounds_by(timed, events):
    plan = timed_plan(timed)
    return Bounds(plan, events, fates_by(plan, events))


def checked_bounds(timed, order):
    """The bounds of a lawful list; BadCourse for any other object."""
    events = lawful_events(timed, order)
    if events is None:
        raise BadCourse(order)
    return bounds_by(timed, events)


def bounds_of(timed, order):
    numbers = checked_bounds(timed, order).numbers
    return sorted([(one, other, numbers[one, other]) for one, other in numbers])


def course_by(bounds, moments):
    """A course as it is told."""
    return told_fates(bounds.fates), {pair: moments[pair] for pair in sorted(moments)}


def course_in(timed, order):
    bounds = checked_bounds(timed, order)
    moments = bounds.moments()
    return None if moments is None else course_by(bounds, moments)


def ring_in(timed, order):
    return checked_bounds(timed, order).ring()


def checked_coming(bounds, pair):
    """A pair (task, path) that is come to; NoComing for any other object."""
    if not is_list(pair) or len(pair) != 2 or not isinstance(pair[0], str) or not is_path(pair[1]):
        raise NoComing(pair)
    found = (pair[0], tuple(pair[1]))
    if found not in bounds.pairs:
        raise NoComing(pair)
    return found


def way_in(timed, order, one, other):
    bounds = checked_bounds(timed, order)
    start = checked_coming(bounds, one)
    goal = checked_coming(bounds, other)
    if bounds.moments() is None:
        return None
    least, ahead = bounds.least_from(start)
    way = [goal]
    while way[-1] != start:
        way.append(ahead[way[-1]])
    way.reverse()
    return least[goal], way
