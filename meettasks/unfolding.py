"""A program unfolded: its events with their causes, as far as they are not cut, and configurations of them."""

from meettasks.basics import is_integer, is_list
from meettasks.errors import BadEvents
from meettasks.graphs import checked_number, graph_of
from meettasks.traces import Marked, do_touch, least_row


class Event:
    """An event: its causes are a bit for each of their numbers; listed are the steps of these and itself."""

    def __init__(self, edge, causes, past):
        self.step = edge.step
        self.written = edge.written
        self.asked = edge.asked
        self.target = edge.target
        self.causes = causes
        self.many = len(past)
        self.listed = sorted([event.step for event in past] + [edge.step])
        self.least = least_row(list(past) + [Marked(edge.step, None, edge.written, edge.asked)])
        self.mate = None


class Unfolding:
    """Events by their numbers, and for each stand a configuration without cut events that leads to it."""

    def __init__(self, graph):
        self.graph = graph
        self.known = []
        self.numbers = {}
        self.firsts = {0: -1}
        self.leading = {0: 0}
        lots = {0: 0}
        while lots:
            # All of these have one number of events: so events come by how many causes they have.
            self.put_events(self.new_events(lots))
            lots = self.longer_lots(lots)

    def numbers_in(self, lot):
        return [at for at in range(len(self.known)) if lot >> at & 1]

    def causes_of(self, members, edge):
        """The causes of a step behind a configuration: the events that it touches, and theirs."""
        causes = 0
        for at in members:
            event = self.known[at]
            if do_touch(event, edge):
                causes |= event.causes | 1 << at
        return causes

    def new_events(self, lots):
        """The events whose causes are just all of one of these configurations."""
        found = []
        for lot in lots:
            members = self.numbers_in(lot)
            for edge in self.graph.edges[lots[lot]]:
                if self.causes_of(members, edge) == lot:
                    found.append(Event(edge, lot, [self.known[at] for at in members]))
        return sorted(found, key=lambda event: (event.many, event.listed, event.least))

    def put_events(self, found):
        """Numbers events that come behind all others; a stand's first one is the least, and cuts what is more."""
        for event in found:
            number = len(self.known)
            self.known.append(event)
            self.numbers[event.causes, event.step] = number
            first = self.firsts.setdefault(event.target, number)
            if first < 0 or self.is_less(self.known[first], event):
                event.mate = first

    def is_less(self, one, other):
        return (one.many, one.listed) < (other.many, other.listed)

    def longer_lots(self, lots):
        """The configurations without cut events that have one event more, with the stands to which they lead."""
        found = {}
        for lot in lots:
            members = self.numbers_in(lot)
            for edge in self.graph.edges[lots[lot]]:
                number = self.numbers[self.causes_of(members, edge), edge.step]
                if self.known[number].mate is None:
                    found[lot | 1 << number] = edge.target
                    self.leading.setdefault(edge.target, lot | 1 << number)
        return found

    def told_causes(self, event):
        """The numbers of the causes that are no causes of others of them."""
        members = self.numbers_in(event.causes)
        return tuple([at for at in members
                      if not any([self.known[other].causes >> at & 1 for other in members])])

    def do_bar(self, one, other):
        """Whether the last steps of two events touch, neither being a cause of the other."""
        first = self.known[one]
        second = self.known[other]
        if first.causes >> other & 1 or second.causes >> one & 1:
            return False
        return do_touch(first, second)


def unfolding_of(program):
    if "unfolding" not in program.kept:
        program.kept["unfolding"] = Unfolding(graph_of(program))
    return program.kept["unfolding"]


def unfolded(program):
    unfolding = unfolding_of(program)
    return [(event.step, unfolding.told_causes(event), event.mate) for event in unfolding.known]


def is_configuration(program, thing):
    if not is_list(thing):
        return False
    unfolding = unfolding_of(program)
    many = len(unfolding.known)
    if not all([is_integer(number) and 0 <= number < many for number in thing]):
        return False
    numbers = sorted(thing)
    if len(set(numbers)) < len(numbers):
        return False
    lot = sum([1 << number for number in numbers])
    if any([unfolding.known[number].causes & ~lot for number in numbers]):
        return False
    # Causes being in it, whatever bars somewhere bars by the last steps of two of its own events.
    return not any([unfolding.do_bar(one, other) for one in numbers for other in numbers if one < other])


def stand_by(program, events):
    if not is_configuration(program, events):
        raise BadEvents(events)
    unfolding = unfolding_of(program)
    at = 0
    for number in sorted(events):
        at = unfolding.graph.edge(at, unfolding.known[number].step).target
    return at


def events_for(program, number):
    at = checked_number(graph_of(program), number)
    unfolding = unfolding_of(program)
    return unfolding.numbers_in(unfolding.leading[at])
