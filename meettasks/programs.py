"""Programs: a body, the tasks that it begins, and guarded things."""

from meettasks.basics import is_word
from meettasks.bodies import copied, copied_deed, deed_at
from meettasks.checking import checked_tasks
from meettasks.errors import BadThings, NoPath, NoTask
from meettasks.things import Thing


def checked_things(things):
    if things is None:
        return {}
    if not isinstance(things, dict):
        raise BadThings(None)
    for name in things:
        if not is_word(name) or not isinstance(things[name], Thing):
            raise BadThings(name)
    return {name: things[name] for name in sorted(things)}


class Program:
    """A program; it does not change. What is worked out of it is kept, as it is asked for again and again."""

    def __init__(self, body, things=None):
        self._guarded = checked_things(things)
        begun = checked_tasks(body, self._guarded)
        self._order = [one.task for one in begun]
        self._masters = {one.task: None if one.by is None else (one.by.task, one.path) for one in begun}
        self._bodies = {one.task: copied(one.text) for one in begun}
        self.kept = {}

    def __eq__(self, other):
        return (isinstance(other, Program) and self._bodies["main"] == other._bodies["main"]
                and self._guarded == other._guarded)

    def tasks(self):
        return list(self._order)

    def master(self, task):
        return self._masters[known_task(self, task)]

    def body(self, task):
        return list(copied(self._bodies[known_task(self, task)]))

    def things(self):
        return {name: self._guarded[name] for name in self._guarded}

    def deed(self, task, path):
        deed = deed_at(self._bodies[known_task(self, task)], path)
        if deed is None:
            raise NoPath(path)
        return copied_deed(deed)


def known_task(program, task):
    """The task, if the program has it."""
    if not isinstance(task, str) or task not in program.tasks():
        raise NoTask(task)
    return task
