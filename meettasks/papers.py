"""Whether two programs, or codes, do the same: what tells them apart, and papers that show that nothing does."""

from meettasks.basics import is_integer, is_list, is_pair
from meettasks.eventspots import both_leads, event_spots, full_view, led_all, members, pairs_until

WHATS = ("can", "rest", "round")


def round_stands(graph):
    """The stands from which steps without events go on for ever, as keys."""
    silent = [[edge.target for edge in edges if not edge.told] for edges in graph.edges]
    found = {at: True for at in range(len(silent))}
    many = len(found) + 1
    while len(found) < many:
        many = len(found)
        found = {at: True for at in found if any([target in found for target in silent[at]])}
    return found


class Side:
    """One of two that are held against one another: its lots, and which of its spots are of rest and of round."""

    def __init__(self, source):
        self.spots = event_spots(source)
        self.view = full_view(source)
        graph = self.spots.graph
        rounds = round_stands(graph)
        self.rest = 0
        self.rounds = 0
        for at, (stand, left) in enumerate(self.spots.spots):
            if not left and not graph.edges[stand]:
                self.rest |= 1 << at
            if not left and stand in rounds:
                self.rounds |= 1 << at

    def tells(self, lot):
        """Whether a lot comes, and has a spot of rest, and one of round."""
        return lot != 0, lot & self.rest != 0, lot & self.rounds != 0

    def told(self, lot):
        return tuple([self.spots.spots[at] for at in members(lot)])


def unlike_what(sides, lots):
    """By what the two lots of a pair are told apart first, and who has it so; None if they are alike."""
    tells = [side.tells(lots[number]) for number, side in enumerate(sides)]
    for place, what in enumerate(WHATS):
        if tells[0][place] != tells[1][place]:
            return what, 0 if tells[0][place] else 1
    return None


def pairs_and_apart(sides):
    """The pairs of lots by first rows, and the triple by which they are told apart, or None."""
    views = [side.view for side in sides]
    pairs, row = pairs_until(views, lambda lots: unlike_what(sides, lots) is not None)
    return pairs, None if row is None else (row,) + unlike_what(sides, pairs[-1])


def apart_by(one, other):
    _, found = pairs_and_apart([Side(one), Side(other)])
    return found


def paper(one, other):
    sides = [Side(one), Side(other)]
    pairs, found = pairs_and_apart(sides)
    if found is not None:
        return None
    return [(sides[0].told(lots[0]), sides[1].told(lots[1])) for lots in pairs]


def as_spot(thing):
    """A spot as it is told, None for any object that is none by its form."""
    if not is_pair(thing) or not is_integer(thing[0]) or not is_list(thing[1]):
        return None
    if not all([is_list(event) and all([isinstance(part, str) for part in event]) for event in thing[1]]):
        return None
    return thing[0], tuple([tuple(event) for event in thing[1]])


def as_lot(side, thing):
    """The lot of an ascending list of spots of one side, None for any object that is none."""
    if not is_list(thing):
        return None
    lot = 0
    for row in thing:
        spot = as_spot(row)
        if spot is None or spot not in side.spots.number:
            return None
        bit = 1 << side.spots.number[spot]
        if bit <= lot:
            return None
        lot |= bit
    return lot


def as_pairs(sides, thing):
    """The pairs of lots, as keys, of a list of unlike pairs; None for any object that is none."""
    if not is_list(thing):
        return None
    found = {}
    for row in thing:
        if not is_pair(row):
            return None
        lots = (as_lot(sides[0], row[0]), as_lot(sides[1], row[1]))
        if None in lots or lots in found:
            return None
        found[lots] = True
    return found


def is_paper(one, other, thing):
    sides = [Side(one), Side(other)]
    pairs = as_pairs(sides, thing)
    if pairs is None or (sides[0].view.first_lot(), sides[1].view.first_lot()) not in pairs:
        return False
    for lots in pairs:
        tells = [side.tells(lots[at])[1:] for at, side in enumerate(sides)]
        if tells[0] != tells[1]:
            return False
        # Steps without events are done ahead, too.
        free = tuple([led_all(side.view.free, lots[at]) for at, side in enumerate(sides)])
        goes = both_leads([side.view for side in sides], free)
        if not all([0 not in goes[event] and goes[event] in pairs for event in goes]):
            return False
    return True
