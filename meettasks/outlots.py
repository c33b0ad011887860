"""Servers met by one caller from outside: lots of known stands, each with all to which own steps lead."""

from meettasks.basics import by_choice, is_within
from meettasks.bodies import bodies_in, deed_at, deeds_along, entries_in
from meettasks.errors import Restless
from meettasks.fields import reached
from meettasks.servers import serving_of

MEETING = ("take", "offer")


def unmet_ways(body):
    """Whether some way through it without a meeting comes to its end, and whether one leaves the "again" around."""
    leaves = False
    for deed in body:
        ends, left = unmet_deed(deed)
        leaves = leaves or left
        if not ends:
            return False, leaves
    return True, leaves


def unmet_deed(deed):
    if deed[0] in MEETING:
        return False, False
    if deed[0] == "leave":
        return False, True
    if deed[0] == "again":
        _, left = unmet_ways(deed[1])
        return left, False
    ways = [unmet_ways(inner) for inner in bodies_in(deed)]
    if not ways:
        return True, False
    return any([way[0] for way in ways]), any([way[1] for way in ways])


def is_met(body, path):
    """Whether a path lies in the body of a take or an arm."""
    return any([deed_at(body, path[:length])[0] in MEETING for length in range(1, len(path), 2)])


def is_restless(body, path, deed):
    if deed[0] == "again":
        ends, _ = unmet_ways(deed[1])
        return ends or is_met(body, path)
    return deed[0] in MEETING and is_met(body, path)


def check_rest(servers):
    for task in servers.names():
        body = servers.program().body(task)
        for path, deed in deeds_along(body):
            if is_restless(body, path, deed):
                raise Restless(task, path)


class Outside:
    """Known stands by numbers; a lot is an ascending tuple of them, at none of which the caller is met."""

    def __init__(self, servers):
        program = servers.program()
        self.entries = [(task, entry) for task in servers.names() for entry in entries_in(program.body(task))]
        self.serving = serving_of(servers)
        self.known = []
        self.numbers = {}
        self.met = []
        self.own = []
        self.takes = []
        self.led = {}
        self.left = {}
        self.put(self.serving.start())
        while len(self.own) < len(self.known):
            self.put_steps(self.known[len(self.own)])
        self.first = self.closed([0])

    def put(self, known):
        """The number of a known stand."""
        if known.key not in self.numbers:
            self.numbers[known.key] = len(self.known)
            self.known.append(known)
            self.met.append(self.serving.is_meeting(known))
        return self.numbers[known.key]

    def put_steps(self, known):
        own = []
        takes = {}
        for move in self.serving.moves_at(known):
            if move.taken is None:
                own.append(self.put(move.target))
            elif not self.serving.is_meeting(known):
                takes.setdefault(move.taken, []).append(self.put(move.target))
        self.own.append(own)
        self.takes.append(takes)

    def closed(self, numbers):
        """The lot of all stands to which own steps lead, the caller not being met."""
        return tuple(sorted([at for at in reached(numbers, self.own, {}) if not self.met[at]]))

    def behind(self, lot, entry):
        """The lot behind a meeting that is over, () if there can be none."""
        if (lot, entry) not in self.led:
            self.led[lot, entry] = self.closed([there for at in lot for there in self.takes[at].get(entry, [])])
        return self.led[lot, entry]

    def along(self, row):
        """The lot behind a row, () if it cannot be done."""
        lot = self.first
        for entry in row:
            lot = self.behind(lot, entry)
        return lot

    def ways(self, lot):
        """The pairs of entries by which the caller can go on, and lots behind."""
        behind = [(entry, self.behind(lot, entry)) for entry in self.entries]
        return [(entry, further) for entry, further in behind if further]

    def left_at(self, lot):
        """The greatest lots of entries with which a lot of stands can be left, in the order of choices."""
        if lot not in self.left:
            self.left[lot] = self.greatest_left(lot)
        return list(self.left[lot])

    def greatest_left(self, lot):
        still = [self.takes[at] for at in lot if not self.own[at]]
        lots = [tuple([entry for entry in self.entries if entry not in takes]) for takes in still]
        greatest = [one for one in lots if not any([one != other and is_within(one, other) for other in lots])]
        return by_choice(sorted({one for one in greatest}))

    def can_leave(self, lot, entries):
        return any([is_within(entries, greatest) for greatest in self.left_at(lot)])


def outside_of(servers):
    """What a caller from outside meets; Restless."""
    if "outside" not in servers.kept:
        check_rest(servers)
        servers.kept["outside"] = Outside(servers)
    return servers.kept["outside"]
