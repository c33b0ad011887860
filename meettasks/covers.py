"""Least counts of like ones that lead somewhere, found backward; counts are integers, some bits for each spot."""

from heapq import heappop, heappush

SPARE_BITS = 24


class Packing:
    """Counts of like ones by numbers of spots, as one integer each; greatest is the greatest number among them."""

    def __init__(self, many_spots, greatest):
        self.width = greatest.bit_length() + SPARE_BITS
        self.mask = (1 << self.width - 1) - 1
        self.guard = sum([1 << spot * self.width + self.width - 1 for spot in range(many_spots)])
        self.spots = list(range(many_spots))

    def packed(self, counts):
        return sum([counts[spot] << spot * self.width for spot in counts])

    def number_in(self, lot, spot):
        return lot >> spot * self.width & self.mask

    def counts_in(self, lot):
        return {spot: self.number_in(lot, spot) for spot in self.spots if self.number_in(lot, spot)}

    def is_covered(self, lot, rows):
        """Whether one of some counts lies within these."""
        high = lot | self.guard
        for row in rows:
            if (high - row) & self.guard == self.guard:
                return True
        return False

    def before(self, lot, step):
        """The least counts with which a step can be done such that what it leads to has these within it."""
        for spot in step.brings:
            lot -= min(self.number_in(lot, spot), step.brings[spot]) << spot * self.width
        return lot + self.packed(step.needs)

    def total(self, lot):
        return sum([self.number_in(lot, spot) for spot in self.spots])


class Search:
    """The least stands that lead to some goals, pairs (known stand, counts), by how many like ones they have."""

    def __init__(self, steps, packing, goals):
        self.steps = steps
        self.packing = packing
        self.rows = [[] for _ in steps.told]
        self.seen = {}
        self.coming = []
        for known, lot in goals:
            self.put(known, lot)

    def put(self, known, lot):
        if (known, lot) not in self.seen:
            self.seen[known, lot] = True
            heappush(self.coming, (self.packing.total(lot), known, lot))

    def next_stand(self):
        """The next least stand, or None. No step makes like ones more or fewer: so none found later is less."""
        while self.coming:
            _, known, lot = heappop(self.coming)
            if not self.packing.is_covered(lot, self.rows[known]):
                self.rows[known].append(lot)
                for source, step in self.steps.sources[known]:
                    self.put(source, self.packing.before(lot, step))
                return known, lot
        return None

    def is_home(self, known, lot):
        """Whether it is a stand at first: all like ones, if any, are where all are at first."""
        home = self.steps.home
        return known == self.steps.first and self.packing.number_in(lot, home) << home * self.packing.width == lot


def least_number(search):
    """The least number of like ones with which some run comes to the goals of a search, or None."""
    found = search.next_stand()
    while found is not None:
        known, lot = found
        if search.is_home(known, lot):
            return search.packing.number_in(lot, search.steps.home)
        found = search.next_stand()
    return None


class Level:
    """Stands from which goals are come to in so many steps, each with the step and the stand that it leads to."""

    def __init__(self, search, most, goals):
        self.search = search
        self.most = most
        self.rows = [[] for _ in search.steps.told]
        self.ways = {}
        self.fresh = self.least_of({goal: None for goal in goals})

    def least_of(self, found):
        """Those of the stands found that have no other one within them, up to so many like ones."""
        packing = self.search.packing
        fresh = []
        for known, lot in sorted(found, key=lambda stand: (packing.total(stand[1]), stand)):
            if packing.total(lot) <= self.most and not packing.is_covered(lot, self.rows[known]):
                self.rows[known].append(lot)
                self.ways[known, lot] = found[known, lot]
                fresh.append((known, lot))
        return fresh

    def go_back(self):
        found = {}
        for known, lot in self.fresh:
            for source, step in self.search.steps.sources[known]:
                found.setdefault((source, self.search.packing.before(lot, step)), (step, (known, lot)))
        self.fresh = self.least_of(found)

    def home(self):
        """A stand at first among those found last, or None."""
        for known, lot in self.fresh:
            if self.search.is_home(known, lot):
                return known, lot
        return None


def shortest_steps(search, most, goals):
    """The steps of a run with so many like ones that comes to some goals, as few as can be, if one does."""
    level = Level(search, most, goals)
    stand = level.home()
    while stand is None:
        level.go_back()
        stand = level.home()
    steps = []
    while level.ways[stand] is not None:
        step, stand = level.ways[stand]
        steps.append(step.step)
    return steps
