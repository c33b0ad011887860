"""Runs in which somebody outside aborts some tasks, and what stays true of things."""

from meettasks.basics import all_lots, first_bad_word, is_list, is_within
from meettasks.courses import (
    begun_course, checked_strikable, flags_at, held_at, how_at, is_same_stand, let_at, longer_course, place_at,
    row_at, value_at)
from meettasks.errors import BadValues, NoThing
from meettasks.graphs import graph_of, named_lots


class StruckRun:
    """A run with strikes of strikable tasks; it does not change."""

    def __init__(self, program, strikable, steps=()):
        self.course = longer_course(begun_course(program, checked_strikable(program, strikable)), steps)

    def __eq__(self, other):
        return isinstance(other, StruckRun) and is_same_stand(self.course, other.course)

    def let(self):
        return let_at(self.course)

    def more(self, steps):
        further = StruckRun(self.course.owner, ())
        further.course = longer_course(self.course, steps)
        return further

    def steps(self):
        return list(self.course.done)

    def program(self):
        return self.course.owner

    def place(self, task):
        return place_at(self.course, task)

    def how(self, task):
        return how_at(self.course, task)

    def flags(self, task):
        return flags_at(self.course, task)

    def held(self, task):
        return held_at(self.course, task)

    def row(self, owner, entry):
        return row_at(self.course, owner, entry)

    def value(self, thing):
        return value_at(self.course, thing)

    def events(self):
        return list(self.course.told)


def thing_number(graph, thing):
    if not isinstance(thing, str) or thing not in graph.plan.thing_number:
        raise NoThing(thing)
    return graph.plan.thing_number[thing]


def struck_values(program, strikable, thing):
    graph = graph_of(program, checked_strikable(program, strikable))
    number = thing_number(graph, thing)
    best = {}
    for at, stand in enumerate(graph.stands):
        value = stand.levels[number]
        if value not in best or len(graph.strucks[at]) < len(graph.strucks[best[value]]):
            best[value] = at
    worths = program.things()[thing].worths()
    return [(value, tuple(graph.first_order(best[value]))) for value in worths if value in best]


def values_struck(graph, number, lot):
    """The values that a thing has behind strikes of any of a lot, as keys."""
    return {graph.stands[at].levels[number]: True for at in range(len(graph.stands))
            if is_within(graph.strucks[at], lot)}


def value_bars(program, strikable, thing, values):
    graph = graph_of(program, checked_strikable(program, strikable))
    number = thing_number(graph, thing)
    if not is_list(values):
        raise BadValues(0)
    wrong = first_bad_word(values, program.things()[thing].worths())
    if wrong is not None:
        raise BadValues(wrong)
    calm = values_struck(graph, number, ())
    barred = [value for value in values if value not in calm]
    found = []
    for lot in reversed(all_lots(graph.strikable)):
        coming = values_struck(graph, number, lot)
        if not any([value in coming for value in barred]) and not any([is_within(lot, more) for more in found]):
            found.append(lot)
    return named_lots(graph.plan, found)
