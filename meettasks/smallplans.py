"""Code made ready for stepping: each row is a spot, by its number."""

from meettasks.codeforms import entries_taken
from meettasks.codes import masters_of, rows_by_task
from meettasks.graphs import graph_of
from meettasks.plans import Nest, Numbers, Spot

ON_KINDS = {"set": "set", "unless": "if", "go": "go", "free": "apart", "over": "end"}


def leads_to_over(rows, number):
    """Whether nothing, or "go" alone, leads on to "over" from a row."""
    seen = set()
    while rows[number][0][0] == "go" and number not in seen:
        seen.add(number)
        number = rows[number][0][1]
    return rows[number][0][0] == "over"


def begun_masters(rows, names):
    """By tasks who begins them; None of those that nobody begins, be it for ever by one another."""
    masters = masters_of(rows)
    found = {}
    for task in names:
        # Ahead of whoever it begins stands each task but those that begin one another.
        master = masters.get(task)
        found[task] = master if master in found else None
    return found


class SmallPlan(Numbers):
    """Code by numbers."""

    def __init__(self, code):
        rows = rows_by_task(code)
        names = code.tasks()
        entries = {task: entries_taken(rows[task]) for task in names}
        super().__init__(names, begun_masters(rows, names), entries, code.things(), True)
        self.firsts = [0 for _ in names]
        for task in names:
            self.spots.append([self.spot_at(task, rows[task], number) for number in range(len(rows[task]))])

    def spot_at(self, task, rows, number):
        row, on = rows[number]
        spot = self.silent_spot(row, number) if row[0] in ON_KINDS else self.step_spot(task, rows, number)
        return spot if on or row[0] not in ON_KINDS else Spot("row", number, spot, spot.goes)

    def silent_spot(self, row, number):
        """As if the row were on."""
        kind = ON_KINDS[row[0]]
        if kind == "set":
            return Spot(kind, number, row[1:], (number + 1,))
        if kind == "if":
            return Spot(kind, number, row[1], (number + 1, row[2]))
        goes = {"go": row[1:], "apart": (number + 1,), "end": ()}
        return Spot(kind, number, None, goes[kind])

    def step_spot(self, task, rows, number):
        row, _ = rows[number]
        kind = row[0]
        if kind == "note":
            return Spot(kind, number, row[1], (number + 1,))
        if kind == "pick":
            return Spot(kind, number, None, row[1])
        if kind == "call":
            what = (self.number[row[1]], self.row_number[row[1], row[2]], row[2])
            return Spot(kind, number, what, (number + 1, row[3]))
        if kind == "take":
            return Spot(kind, number, (self.row_number[task, row[1]], row[1]), (number + 1,))
        if kind == "offer":
            return self.offer_spot(task, row, number)
        if kind == "nest":
            tasks = tuple([self.number[one] for one in sorted(row[1])])
            return Spot("opening", number, Nest(tasks, self.below_nest(tasks), None), (number + 1,))
        if kind == "close":
            return Spot(kind, number, leads_to_over(rows, number + 1), (number + 1,))
        if kind == "abort":
            return Spot(kind, number, self.number[row[1]], (number + 1,))
        return self.thing_spot(row, number)

    def offer_spot(self, task, row, number):
        arms = tuple([(flag, self.row_number[task, entry], entry) for flag, entry, _ in row[1]])
        goes = tuple([place for _, _, place in row[1]])
        other = None if row[2] is None else row[2][0]
        return Spot("offer", number, (arms, other), goes + (row[2][1],) if other == "else" else goes)

    def thing_spot(self, row, number):
        kind, name, deed = row
        thing = self.thing_number[name]
        if kind == "use":
            return Spot(kind, number, (thing, self.led[thing][deed]), (number + 1,))
        what = (thing, self.opened[thing][deed], self.row_number["*" + name, deed], deed)
        return Spot(kind, number, what, (number + 1,))


def small_graph(code):
    """All stands of code that can come, numbered by their first orders."""
    if "plan" not in code.kept:
        code.kept["plan"] = SmallPlan(code)
    return graph_of(code)
