"""Callers in the rows of a thing, and things that no callers can tell apart."""

from meettasks.basics import is_integer, is_list, is_pair
from meettasks.desks import Desk, checked_callers
from meettasks.errors import BadCalls, UnlikeNames
from meettasks.fields import reached
from meettasks.programs import Program
from meettasks.things import Thing
from meettasks.uses import all_uses
from meettasks.ways import ARRIVED, first_way


def as_call(desk, rows, thing):
    """A call that can be made, None for any object that is none."""
    if not is_pair(thing) or not is_integer(thing[0]) or not isinstance(thing[1], str):
        return None
    call = (thing[0], thing[1])
    return call if call in desk.calls_at(rows) else None


def gone_on(thing, callers, calls):
    desk = Desk(thing, checked_callers(callers))
    if not is_list(calls):
        raise BadCalls(0)
    value, rows = thing.start(), desk.empty
    found = []
    for index, one in enumerate(calls):
        call = as_call(desk, rows, one)
        if call is None:
            raise BadCalls(index)
        value, rows, gone = desk.called(value, rows, call)
        found.append(gone)
    return found


class Pair:
    """Two desks with calls alike; kept are the stands of both from which none was found that parts them."""

    def __init__(self, one, other):
        self.one = one
        self.other = other
        self.alike = {}

    def ways(self, place):
        """The calls from a stand of both, as long as the same callers went on the rows are the same."""
        value, worth, rows = place
        found = []
        for call in self.one.calls_at(rows):
            behind, left, gone = self.one.called(value, rows, call)
            there, _, others = self.other.called(worth, rows, call)
            target = (behind, there, left) if sorted(gone) == sorted(others) else ARRIVED
            if target not in self.alike:
                found.append((call, target))
        return found

    def parting(self, value, worth):
        """The first row of calls, the one being at a value and the other at a worth, that parts them, or None."""
        return first_way((value, worth, self.one.empty), self.ways)

    def are_alike(self, value, worth):
        start = (value, worth, self.one.empty)
        if start in self.alike:
            return True
        if self.parting(value, worth) is not None:
            return False
        self.put_alike(start)
        return True

    def put_alike(self, start):
        coming = [start]
        while coming:
            place = coming.pop()
            if place not in self.alike:
                coming.extend([target for _, target in self.ways(place)])
                self.alike[place] = True


def calls_that_part(one, other, callers):
    checked_callers(callers)
    if list(one.deeds()) != list(other.deeds()) or list(one.entries()) != list(other.entries()):
        raise UnlikeNames()
    return Pair(Desk(one, callers), Desk(other, callers)).parting(one.start(), other.start())


def alike_lots(thing, callers, values):
    """These values in lots, in their order, by their first ones."""
    desk = Desk(thing, callers)
    pair = Pair(desk, desk)
    lots = []
    for value in values:
        mine = [lot for lot in lots if pair.are_alike(lot[0], value)]
        if mine:
            mine[0].append(value)
        else:
            lots.append([value])
    return [tuple(lot) for lot in lots]


def like_values(thing, callers):
    return alike_lots(thing, checked_callers(callers), thing.worths())


def least_thing(thing, callers):
    checked_callers(callers)
    uses = all_uses(thing)
    coming = reached([thing.start()], {value: [use.target for use in uses[value]] for value in uses}, {})
    lots = alike_lots(thing, callers, [value for value in thing.worths() if value in coming])
    first = {value: lot[0] for lot in lots for value in lot}
    values = [lot[0] for lot in lots]
    return Thing(values, first[thing.start()], led_on(thing.deeds(), values, first),
                 led_on(thing.entries(), values, first))


def led_on(tables, values, first):
    return {name: {value: first[tables[name][value]] for value in values if value in tables[name]} for name in tables}


def with_least_things(program):
    callers = len(program.tasks())
    things = program.things()
    return Program(program.body("main"), {name: least_thing(things[name], callers) for name in things})
