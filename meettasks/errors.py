"""All errors of the package: each keeps the objects that it was made with."""


class TaskError(ValueError):
    """The base of all errors here."""


class BadValues(TaskError):
    def __init__(self, index):
        self.index = index


class BadStart(TaskError):
    def __init__(self, thing):
        self.thing = thing


class BadDeeds(TaskError):
    def __init__(self, name):
        self.name = name


class BadEntries(TaskError):
    def __init__(self, name):
        self.name = name


class BadThings(TaskError):
    def __init__(self, name):
        self.name = name


class BadBody(TaskError):
    def __init__(self, task, path):
        self.task = task
        self.path = path


class NoTask(TaskError):
    def __init__(self, task):
        self.task = task


class NoPath(TaskError):
    def __init__(self, path):
        self.path = path


class NoThing(TaskError):
    def __init__(self, thing):
        self.thing = thing


class BadOrder(TaskError):
    def __init__(self, index):
        self.index = index


class NoStand(TaskError):
    def __init__(self, number):
        self.number = number


class BadSpots(TaskError):
    def __init__(self, thing):
        self.thing = thing


class Endless(TaskError):
    def __init__(self, order):
        self.order = order


class BadEvents(TaskError):
    def __init__(self, thing):
        self.thing = thing


class NoDeed(TaskError):
    def __init__(self, thing):
        self.thing = thing


class BadStretch(TaskError):
    def __init__(self, thing):
        self.thing = thing


class BadKind(TaskError):
    def __init__(self, kind):
        self.kind = kind


class BadMany(TaskError):
    def __init__(self, thing):
        self.thing = thing


class NotClosing(TaskError):
    def __init__(self, task):
        self.task = task


class BadTasks(TaskError):
    def __init__(self, index):
        self.index = index


class BadOffers(TaskError):
    def __init__(self, index):
        self.index = index


class BadSentence(TaskError):
    def __init__(self, name):
        self.name = name


class BadTruth(TaskError):
    def __init__(self, thing):
        self.thing = thing


class BadMarks(TaskError):
    def __init__(self, index):
        self.index = index


class NoEntryName(TaskError):
    def __init__(self, entry):
        self.entry = entry


class BadNames(TaskError):
    def __init__(self, index):
        self.index = index


class BadNumber(TaskError):
    def __init__(self, number):
        self.number = number


class BadCalls(TaskError):
    def __init__(self, index):
        self.index = index


class UnlikeNames(TaskError):
    pass


class BadServers(TaskError):
    def __init__(self, task, path):
        self.task = task
        self.path = path


class BadLike(TaskError):
    def __init__(self, path):
        self.path = path


class BadWanted(TaskError):
    def __init__(self, thing):
        self.thing = thing


class NoSpot(TaskError):
    def __init__(self, thing):
        self.thing = thing


class BadStep(TaskError):
    def __init__(self, index):
        self.index = index


class Restless(TaskError):
    def __init__(self, task, path):
        self.task = task
        self.path = path


class BadRow(TaskError):
    def __init__(self, index):
        self.index = index


class BadLot(TaskError):
    def __init__(self, thing):
        self.thing = thing


class BadStates(TaskError):
    def __init__(self, index):
        self.index = index


class UnlikeEntries(TaskError):
    pass


class BadMachine(TaskError):
    def __init__(self, thing):
        self.thing = thing


class NoEntry(TaskError):
    def __init__(self, owner, entry):
        self.owner = owner
        self.entry = entry


class BadJobs(TaskError):
    def __init__(self, job):
        self.job = job


class NoJob(TaskError):
    def __init__(self, job):
        self.job = job


class BadComings(TaskError):
    def __init__(self, job):
        self.job = job


class BadCeiling(TaskError):
    def __init__(self, ceiling):
        self.ceiling = ceiling


class BadEnds(TaskError):
    def __init__(self, job):
        self.job = job


class BadTimed(TaskError):
    def __init__(self, task, path):
        self.task = task
        self.path = path


class BadFates(TaskError):
    def __init__(self, thing):
        self.thing = thing


class NoNote(TaskError):
    def __init__(self, word):
        self.word = word


class NoComing(TaskError):
    def __init__(self, pair):
        self.pair = pair


class BadCourse(TaskError):
    def __init__(self, thing):
        self.thing = thing


class BadCode(TaskError):
    def __init__(self, task, number):
        self.task = task
        self.number = number


class Silent(TaskError):
    def __init__(self, task, spot):
        self.task = task
        self.spot = spot


class BadCuts(TaskError):
    def __init__(self, index):
        self.index = index


class NoRow(TaskError):
    def __init__(self, number):
        self.number = number


class BadLog(TaskError):
    def __init__(self, index):
        self.index = index


class BadGap(TaskError):
    def __init__(self, number):
        self.number = number


class BadEvent(TaskError):
    def __init__(self, event):
        self.event = event


class BadApart(TaskError):
    def __init__(self, task):
        self.task = task


class BadLine(TaskError):
    def __init__(self, thing):
        self.thing = thing


class BadKinds(TaskError):
    def __init__(self, index):
        self.index = index


class BadText(TaskError):
    def __init__(self, index):
        self.index = index


class BadOpen(TaskError):
    def __init__(self, index):
        self.index = index


class BadFilling(TaskError):
    def __init__(self, task):
        self.task = task


class BadAsk(TaskError):
    def __init__(self, thing):
        self.thing = thing


class BadName(TaskError):
    def __init__(self, name):
        self.name = name


class BadThing(TaskError):
    def __init__(self, thing):
        self.thing = thing


class Lacks(TaskError):
    def __init__(self, name):
        self.name = name


class NotOf(TaskError):
    def __init__(self, name):
        self.name = name


class NoName(TaskError):
    def __init__(self, name):
        self.name = name


class Needed(TaskError):
    def __init__(self, name, by):
        self.name = name
        self.by = by


class Nothing(TaskError):
    pass
