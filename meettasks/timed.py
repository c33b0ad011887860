"""Tasks that take time, and courses of them."""

from meettasks.basics import is_integer, is_list, is_pair, is_path
from meettasks.differences import Bounds
from meettasks.meetings import first_meeting
from meettasks.timedbodies import TimedPlan, check_timed, copied_timed


class Timed:
    """Tasks that take time; they do not change. What is worked out of them is kept."""

    def __init__(self, tasks):
        check_timed(tasks)
        self._bodies = {task: copied_timed(tasks[task]) for task in sorted(tasks)}
        self.kept = {}

    def __eq__(self, other):
        return isinstance(other, Timed) and self._bodies == other._bodies

    def tasks(self):
        return {task: self._bodies[task] for task in self._bodies}


def timed_plan(timed):
    if "plan" not in timed.kept:
        timed.kept["plan"] = TimedPlan(timed.tasks())
    return timed.kept["plan"]


def as_fate(thing):
    """A fate as it is told, None for any object that is none by its form."""
    if not is_list(thing) or not thing or not isinstance(thing[0], str):
        return None
    if len(thing) == 1:
        return (thing[0],)
    if len(thing) != 3 or not isinstance(thing[1], str) or not is_path(thing[2]):
        return None
    return thing[0], thing[1], tuple(thing[2])


def as_fates(thing):
    """Fates as they are told, None for any object that is none by its form."""
    if not is_list(thing):
        return None
    found = []
    for row in thing:
        if not is_list(row) or len(row) != 3 or not isinstance(row[0], str) or not is_path(row[1]):
            return None
        fate = as_fate(row[2])
        if fate is None:
            return None
        found.append((row[0], tuple(row[1]), fate))
    return tuple(found)


def told_fates(fates):
    """Fates by pairs (task, path) as an ascending tuple of triples."""
    return tuple([pair + (fates[pair],) for pair in sorted(fates)])


def are_times(thing):
    """Whether it is a dict from pairs (task, path) to integers."""
    if not isinstance(thing, dict):
        return False
    for key in thing:
        if not isinstance(key, tuple) or len(key) != 2 or not isinstance(key[0], str):
            return False
        if not isinstance(key[1], tuple) or not is_path(key[1]) or not is_integer(thing[key]):
            return False
    return True


def next_ways(meeting, fates, moments):
    """The events of the least moment that can come next by fates and moments, with where all are behind them."""
    found = []
    for task in meeting.comers():
        found.append((meeting.spot(task).pair, meeting.come(task)))
    for task in meeting.hasty():
        spot = meeting.spot(task)
        if fates.get(spot.pair) == ("late",):
            found.append((meeting.plan.spots[task][spot.late].pair, meeting.be_late(task)))
    if not all([pair in moments for pair, _ in found]):
        return None
    first = min([moments[pair] for pair, _ in found], default=0)
    return [way for pair, way in found if moments[pair] == first]


def does_fit(plan, event, fates):
    """Whether an event is as fates tell."""
    pair = plan.spots[event.task][event.at].pair
    fate = fates.get(pair)
    if event.mate is None:
        return fate is not None
    mate = plan.spots[event.mate[0]][event.mate[1]].pair
    return fate == ("meets",) + mate and fates.get(mate) == ("meets",) + pair


def does_end(meeting, fates, events):
    """Whether all has come: who waits stays, and no fate is told of what did not come."""
    waiting = [meeting.spot(task) for task in meeting.waiting]
    if not all([spot.limit() is None and fates[spot.pair] == ("stays",) for spot in waiting]):
        return False
    return len(fates) == len([event for event in events if event.word == "comes"])


def order_by(plan, fates, moments):
    """Events, moments ascending, in which fates are these, None if there is no such lawful list."""
    coming = [((), first_meeting(plan))]
    seen = {}
    while coming:
        events, meeting = coming.pop()
        if meeting.key not in seen:
            seen[meeting.key] = True
            ways = next_ways(meeting, fates, moments)
            if ways is None:
                return None
            if not ways and does_end(meeting, fates, events):
                return events
            coming.extend([(events + (event,), further) for event, further in ways if does_fit(plan, event, fates)])
    return None


def is_course(timed, thing):
    if not is_pair(thing) or not are_times(thing[1]):
        return False
    told = as_fates(thing[0])
    if told is None:
        return False
    fates = {(task, path): fate for task, path, fate in told}
    if told != told_fates(fates):
        return False
    plan = timed_plan(timed)
    events = order_by(plan, fates, thing[1])
    if events is None:
        return False
    bounds = Bounds(plan, events, fates)
    if sorted(bounds.pairs) != sorted(thing[1]):
        return False
    return bounds.are_kept(thing[1]) and all([thing[1][plan.spots[task][first].pair] == 0
                                              for task, first in enumerate(plan.firsts)])
