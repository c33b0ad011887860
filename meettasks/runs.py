"""Runs: one order of the steps of a program."""

from meettasks.courses import (
    begun_course, flags_at, held_at, how_at, is_same_stand, let_at, longer_course, place_at, row_at, value_at)


class Run:
    """A run of a program; it does not change."""

    def __init__(self, program, steps=()):
        self.course = longer_course(begun_course(program, ()), steps)

    def __eq__(self, other):
        return isinstance(other, Run) and is_same_stand(self.course, other.course)

    def let(self):
        return let_at(self.course)

    def more(self, steps):
        further = Run(self.course.owner)
        further.course = longer_course(self.course, steps)
        return further

    def steps(self):
        return list(self.course.done)

    def program(self):
        return self.course.owner

    def place(self, task):
        return place_at(self.course, task)

    def how(self, task):
        return how_at(self.course, task)

    def flags(self, task):
        return flags_at(self.course, task)

    def held(self, task):
        return held_at(self.course, task)

    def row(self, owner, entry):
        return row_at(self.course, owner, entry)

    def value(self, thing):
        return value_at(self.course, thing)

    def events(self):
        return list(self.course.told)
