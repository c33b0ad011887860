"""Bounds between the moments of a course that happens in one order, and moments that keep them."""


class Bounds:
    """The bounds of a lawful list: by pairs of (task, path), how much later at most the other one is."""

    def __init__(self, plan, events, fates):
        self.plan = plan
        self.fates = fates
        self.numbers = {}
        self.order = [self.pair_of(event) for event in events]
        firsts = [plan.spots[task][first].pair for task, first in enumerate(plan.firsts)]
        for one in firsts:
            for other in firsts:
                self.put(one, other, 0)
        self.later = {}
        for event in events:
            if event.mate is not None:
                self.put_meeting(event)
        self.pairs = []
        for task in range(len(plan.names)):
            self.put_task(task)
        for at, pair in enumerate(self.order):
            for ahead in self.order[:at]:
                self.put(pair, ahead, 0)

    def pair_of(self, event):
        """Whose moment that of an event is: of a lateness that of what is come to next."""
        spots = self.plan.spots[event.task]
        return spots[event.at if event.word == "comes" else spots[event.at].late].pair

    def put(self, one, other, number):
        if one != other:
            self.numbers[one, other] = min(number, self.numbers.get((one, other), number))

    def put_both(self, one, other, low, high):
        """The other one is so much later, from low to high."""
        self.put(one, other, high)
        self.put(other, one, -low)

    def put_meeting(self, event):
        """Both go on at one moment, so long behind the later one's coming; who came ahead waited so long at most."""
        spot = self.plan.spots[event.task][event.at]
        mate = self.plan.spots[event.mate[0]][event.mate[1]]
        take = spot if spot.kind == "take" else mate
        behind = self.plan.spots[event.task][spot.behind].pair
        with_mate = self.plan.spots[event.mate[0]][mate.behind].pair
        for pair in (behind, with_mate):
            self.put_both(spot.pair, pair, take.deed[3], take.deed[4])
        self.put_both(behind, with_mate, 0, 0)
        self.later[mate.pair] = spot.pair
        if mate.limit() is not None:
            self.put(mate.pair, spot.pair, mate.limit())

    def put_task(self, task):
        """The bounds along a task, but for its meetings; pairs are told of all that it comes to."""
        spots = self.plan.spots[task]
        at = self.plan.firsts[task]
        while at is not None:
            spot = spots[at]
            self.pairs.append(spot.pair)
            at = self.next_of(spot)
            if at is not None and spot.kind in ("note", "work"):
                low, high = (spot.deed[1], spot.deed[2]) if spot.kind == "work" else (0, 0)
                self.put_both(spot.pair, spots[at].pair, low, high)
            elif at is not None and self.fates[spot.pair] == ("late",):
                self.put_both(spot.pair, spots[at].pair, spot.limit(), spot.limit())

    def next_of(self, spot):
        """The number of the spot that is come to next, None behind an end and where the task stays."""
        if spot.kind in ("end", "note", "work"):
            return spot.behind
        fate = self.fates[spot.pair]
        if fate == ("stays",):
            return None
        return spot.late if fate == ("late",) else spot.behind

    def moments(self):
        """The least moments that keep all bounds, the first ones at 0; None if there are none."""
        return least_moments(self.pairs, self.numbers)

    def moments_at(self, one, other, number):
        """The least moments with this distance from the one to the other, if there are any with it."""
        numbers = {key: self.numbers[key] for key in self.numbers}
        if one != other:
            numbers[one, other] = number
            numbers[other, one] = -number
        return least_moments(self.pairs, numbers)

    def least_from(self, start):
        """By pairs the least sums of bounds along ways from one on, if no ring is below 0, and which is right ahead."""
        least = {start: 0}
        ahead = {}
        changed = True
        while changed:
            changed = False
            for one, other in self.numbers:
                if one in least:
                    number = least[one] + self.numbers[one, other]
                    if other not in least or number < least[other]:
                        least[other] = number
                        ahead[other] = one
                        changed = True
        return least, ahead

    def ring(self):
        """Pairs along which bounds sum below 0 from each to the next one and back to the first, or None."""
        least = {pair: 0 for pair in self.pairs}
        ahead = {}
        changed = None
        for _ in self.pairs:
            changed = None
            for one, other in self.numbers:
                if least[one] + self.numbers[one, other] < least[other]:
                    least[other] = least[one] + self.numbers[one, other]
                    ahead[other] = one
                    changed = other
        # What changes as often as there are pairs is led to by a ring of those right ahead.
        return None if changed is None else ring_to(changed, ahead)

    def are_kept(self, moments):
        return all([moments[other] - moments[one] <= self.numbers[one, other] for one, other in self.numbers])


def least_moments(pairs, numbers):
    """The least moments from 0 on that keep bounds, None if there are none."""
    found = {pair: 0 for pair in pairs}
    for _ in range(len(found) + 1):
        changed = False
        for one, other in numbers:
            least = found[other] - numbers[one, other]
            if found[one] < least:
                found[one] = least
                changed = True
        if not changed:
            return found
    return None


def ring_to(pair, ahead):
    """The ring that leads to a pair, by those right ahead."""
    for _ in list(ahead):
        pair = ahead[pair]
    found = [pair]
    while ahead[found[-1]] != pair:
        found.append(ahead[found[-1]])
    found.reverse()
    return found
