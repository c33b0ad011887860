"""Stands, event by event: spots at which some events of the last step are still to come, and lots of them as bits."""

from meettasks.codes import Code
from meettasks.graphs import graph_of
from meettasks.smallplans import small_graph
from meettasks.steps import first_stand


class EventSpots:
    """All spots, ascending, by numbers; where steps without events and single events lead from each."""

    def __init__(self, graph):
        self.graph = graph
        told = tuple(first_stand(graph.plan).told)
        found = {(0, told[at:]): True for at in range(len(told) + 1)}
        for edges in graph.edges:
            for edge in edges:
                for at in range(min(1, len(edge.told)), len(edge.told) + 1):
                    found[edge.target, tuple(edge.told[at:])] = True
        self.spots = sorted(found)
        self.number = {spot: at for at, spot in enumerate(self.spots)}
        self.first = self.number[0, told]
        self.silent = [self.silent_from(spot) for spot in self.spots]
        self.coming = [self.events_from(spot) for spot in self.spots]

    def silent_from(self, spot):
        """The spots to which steps without events lead."""
        stand, left = spot
        if left:
            return []
        return [self.number[edge.target, ()] for edge in self.graph.edges[stand] if not edge.told]

    def events_from(self, spot):
        """The pairs (event, spot) of what can come next."""
        stand, left = spot
        if left:
            return [(left[0], self.number[stand, left[1:]])]
        return [(edge.told[0], self.number[edge.target, tuple(edge.told[1:])])
                for edge in self.graph.edges[stand] if edge.told]


def event_spots(source):
    """The spots of a program, or of code."""
    if "spots" not in source.kept:
        source.kept["spots"] = EventSpots(small_graph(source) if isinstance(source, Code) else graph_of(source))
    return source.kept["spots"]


def members(lot):
    """The numbers in a lot, ascending."""
    found = []
    while lot:
        lowest = lot & -lot
        found.append(lowest.bit_length() - 1)
        lot ^= lowest
    return found


def led_all(leads, lot):
    """All to which those of a lot lead, by a list of lots."""
    found = 0
    for at in members(lot):
        found |= leads[at]
    return found


def closures(targets):
    """By numbers the lots of all that can be come to, themselves among them."""
    lots = [1 << at for at in range(len(targets))]
    changed = True
    while changed:
        changed = False
        for at in reversed(range(len(targets))):
            lot = lots[at]
            for target in targets[at]:
                lot |= lots[target]
            if lot != lots[at]:
                lots[at] = lot
                changed = True
    return lots


class View:
    """Spots as somebody sees them who is told events of some kinds alone."""

    def __init__(self, spots, kinds):
        self.spots = spots
        self.seen = [[(event, 1 << target) for event, target in row if event[0] in kinds] for row in spots.coming]
        unseen = [[target for event, target in row if event[0] not in kinds] for row in spots.coming]
        self.free = closures([silent + unseen[at] for at, silent in enumerate(spots.silent)])

    def first_lot(self):
        return self.free[self.spots.first]

    def leads(self, lot):
        """By each event that is seen and can come next the lot behind it, events ascending."""
        found = {}
        for at in members(lot):
            for event, target in self.seen[at]:
                found[event] = found.get(event, 0) | target
        return {event: led_all(self.free, found[event]) for event in sorted(found)}


KINDS = ("apart", "broken", "ended", "meets", "note", "served")


def full_view(source):
    """The view of who is told all events."""
    if "view" not in source.kept:
        source.kept["view"] = View(event_spots(source), KINDS)
    return source.kept["view"]


def both_leads(views, lots):
    """By events, ascending, the pairs of lots to which a pair leads, 0 where just one comes."""
    goes = [view.leads(lots[at]) for at, view in enumerate(views)]
    events = sorted(set(list(goes[0]) + list(goes[1])))
    return {event: (goes[0].get(event, 0), goes[1].get(event, 0)) for event in events}


def pairs_until(views, is_apart):
    """The pairs of lots of two views, by their first rows, up to the first that is apart, with its row, or None."""
    start = (views[0].first_lot(), views[1].first_lot())
    rows = {start: []}
    coming = [start]
    found = []
    while len(found) < len(coming):
        lots = coming[len(found)]
        found.append(lots)
        if is_apart(lots):
            return found, rows[lots]
        goes = both_leads(views, lots)
        for event in goes:
            if goes[event] not in rows:
                rows[goes[event]] = rows[lots] + [event]
                coming.append(goes[event])
    return found, None
