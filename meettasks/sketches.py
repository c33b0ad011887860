"""Programs some of whose tasks are not written yet, and what they can come to by small bodies for these."""

from meettasks.basics import first_bad_word, is_list
from meettasks.bodies import deed_at, deeds_along, entries_in, with_bodies
from meettasks.doing import ENDED
from meettasks.errors import BadAsk, BadBody, BadFilling, BadOpen
from meettasks.graphs import graph_of
from meettasks.programs import Program

ASKED = ("ends", "stuck")
MOST_DEEDS = 3


def can_be_unknown(program, task):
    """Whether it is a task of a nest that nobody calls and that begins nobody."""
    if task == "main" or any([program.master(one) is not None and program.master(one)[0] == task
                              for one in program.tasks()]):
        return False
    return not any([deed[0] == "call" and deed[1] == task
                    for one in program.tasks() for _, deed in deeds_along(program.body(one))])


def checked_unknown(program, unknown):
    """The open tasks, ascending; BadOpen for the first that is none, or stood before."""
    if not is_list(unknown):
        raise BadOpen(0)
    known = [task for task in program.tasks() if can_be_unknown(program, task)]
    wrong = first_bad_word(unknown, known)
    if wrong is not None:
        raise BadOpen(wrong)
    return sorted(unknown)


def refilled(program, bodies):
    """The program with other bodies for some tasks."""
    return Program(with_bodies(program.body("main"), bodies), program.things())


class Sketch:
    """A program that lacks the bodies of some tasks; it does not change."""

    def __init__(self, body, things=None, unknown=()):
        self._whole = Program(body, things)
        self._unknown = checked_unknown(self._whole, unknown)

    def __eq__(self, other):
        return isinstance(other, Sketch) and self._whole == other._whole and self._unknown == other._unknown

    def program(self):
        return self._whole

    def filled(self, bodies):
        if not isinstance(bodies, dict):
            raise BadFilling(None)
        for task in self._unknown:
            if task not in bodies:
                raise BadFilling(task)
        for task in bodies:
            if task not in self._unknown:
                raise BadFilling(task)
        program = self._whole
        for task in self._unknown:
            try:
                program = refilled(program, {task: bodies[task]})
            except BadBody:
                raise BadFilling(task)
        return program

    def fillings(self):
        """By the open tasks, ascending, all fillings of each."""
        return {task: small_bodies(deeds_open_to(self._whole, task, self._unknown)) for task in self._unknown}


def tasks_seen(program, task):
    """The tasks that a task sees: those of all nests around it."""
    found = []
    place = program.master(task)
    while place is not None:
        body = program.body(place[0])
        for length in range(1, len(place[1]) + 1, 2):
            deed = deed_at(body, place[1][:length])
            if deed[0] == "nest":
                found.extend(list(deed[1]))
        place = program.master(place[0])
    return found


def deeds_open_to(program, task, unknown):
    """The deeds of which fillings of a task are made."""
    found = [("note", "x")]
    for one in tasks_seen(program, task):
        if one not in unknown:
            found.extend([("call", one, entry, ()) for entry in entries_in(program.body(one))])
    things = program.things()
    for name in things:
        found.extend([("use", name, deed) for deed in things[name].deeds()])
        found.extend([("wait", name, entry) for entry in things[name].entries()])
    return sorted(found)


def small_bodies(deeds):
    """All lists of at most so many deeds as a filling has."""
    bodies = [[]]
    found = [[]]
    for _ in range(MOST_DEEDS):
        bodies = [body + [deed] for body in bodies for deed in deeds]
        found = found + bodies
    return found


def all_fillings(fillings):
    """The lots of fillings, by tasks; fewest deeds in all, then as the lists compare."""
    lots = [[]]
    for task in fillings:
        lots = [lot + [body] for lot in lots for body in fillings[task]]
    tasks = list(fillings)
    return [{task: lot[at] for at, task in enumerate(tasks)} for lot in sorted(lots, key=fewest_deeds)]


def fewest_deeds(lot):
    return sum([len(body) for body in lot]), lot


def ends_and_sticks(program):
    """Whether main ends in some run, and whether some comes to a stand without a step at which it has not."""
    graph = graph_of(program)
    ended = [stand.places[0] == ENDED for stand in graph.stands]
    stuck = [not ended[at] and not edges for at, edges in enumerate(graph.edges)]
    return {"ends": any(ended), "stuck": any(stuck)}


def verdicts(sketch, ask):
    if not is_list(ask) or first_bad_word(ask, ASKED) is not None:
        raise BadAsk(ask)
    found = {}
    for lot in all_fillings(sketch.fillings()):
        if len(found) == len(ask):
            break
        told = ends_and_sticks(sketch.filled(lot))
        for word in ask:
            if told[word] and word not in found:
                found[word] = {task: list(lot[task]) for task in lot}
    return {word: found[word] for word in sorted(found)}
