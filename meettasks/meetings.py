"""Orders in which tasks come to calls and takes, and are late, moments left aside."""

from meettasks.timedbodies import MEETINGS


class Event:
    """A task comes to a call or take, and whom it meets then (as a pair of numbers, or None), or it is late there."""

    def __init__(self, task, at, word, mate):
        self.task = task
        self.at = at
        self.word = word
        self.mate = mate


class Meeting:
    """Where all tasks are: the next call, take or end of each, and who waits there, as they came."""

    def __init__(self, plan, stops, waiting):
        self.plan = plan
        self.stops = stops
        self.waiting = waiting
        self.key = (stops, waiting)

    def spot(self, task):
        return self.plan.spots[task][self.stops[task]]

    def comers(self):
        """The tasks that can come to something."""
        return [task for task in range(len(self.stops))
                if task not in self.waiting and self.spot(task).kind in MEETINGS]

    def hasty(self):
        """The tasks that wait and have a limit, as they came."""
        return [task for task in self.waiting if self.spot(task).limit() is not None]

    def does_call(self, caller, taker):
        """Whether a task at a call calls the entry that another one, at a take, takes."""
        call, take = self.spot(caller), self.spot(taker)
        if call.kind != "call" or take.kind != "take":
            return False
        return call.deed[1] == self.plan.names[taker] and call.deed[2] == take.deed[1]

    def mate_of(self, task):
        """Whom a task meets by coming, None if nobody is there."""
        for other in self.waiting:
            if self.does_call(task, other) or self.does_call(other, task):
                return other
        return None

    def moved(self, goes):
        """Where all are when some tasks, by numbers, go on at spots, and wait no more."""
        stops = tuple([self.plan.stop_from(task, goes[task]) if task in goes else stop
                       for task, stop in enumerate(self.stops)])
        return Meeting(self.plan, stops, tuple([task for task in self.waiting if task not in goes]))

    def come(self, task):
        """The event of a coming, and where all are behind it."""
        mate = self.mate_of(task)
        if mate is None:
            return Event(task, self.stops[task], "comes", None), Meeting(self.plan, self.stops, self.waiting + (task,))
        event = Event(task, self.stops[task], "comes", (mate, self.stops[mate]))
        return event, self.moved({task: self.spot(task).behind, mate: self.spot(mate).behind})

    def be_late(self, task):
        return Event(task, self.stops[task], "late", None), self.moved({task: self.spot(task).late})

    def ways(self):
        """All pairs of an event that can come next, and where all are behind it."""
        return [self.come(task) for task in self.comers()] + [self.be_late(task) for task in self.hasty()]


def first_meeting(plan):
    stops = [plan.stop_from(task, first) for task, first in enumerate(plan.firsts)]
    return Meeting(plan, tuple(stops), ())


def lawful_lists(plan):
    """All lists of events in which nothing that can come lacks."""
    found = []
    coming = [((), first_meeting(plan))]
    while coming:
        events, meeting = coming.pop()
        ways = meeting.ways()
        if not ways:
            found.append(events)
        coming.extend([(events + (event,), further) for event, further in reversed(ways)])
    return found


def fates_by(plan, events):
    """By pairs (task, path) the fates of calls and takes in a lawful list."""
    found = {}
    for event in events:
        pair = plan.spots[event.task][event.at].pair
        if event.word == "late":
            found[pair] = ("late",)
        elif event.mate is None:
            found[pair] = ("stays",)
        else:
            mate = plan.spots[event.mate[0]][event.mate[1]].pair
            found[pair] = ("meets",) + mate
            found[mate] = ("meets",) + pair
    return {pair: found[pair] for pair in sorted(found)}
