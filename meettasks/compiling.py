"""Programs made into code that does the same, all of whose silent rows are on."""

from meettasks.codes import Code

# Any word would do: an "unless" both ways of which lead to one row asks a flag for nothing.
UNASKED = "x"


class Writer:
    """The rows of one task as they are written; places in them are labels, told by a list when all are set."""

    def __init__(self, body):
        self.rows = []
        self.labels = []
        self.has_closed = False
        self.write(body, None)
        self.put(("over",), True)

    def put(self, row, on):
        self.rows.append((row, on))

    def label(self):
        self.labels.append(None)
        return len(self.labels) - 1

    def set_label(self, label):
        self.labels[label] = len(self.rows)

    def write(self, body, out):
        """Writes a body; out is the label to which a "leave" leads."""
        for deed in body:
            self.write_deed(deed, out)

    def write_deed(self, deed, out):
        kind = deed[0]
        if kind == "leave":
            self.write_leave(out)
        elif kind == "again":
            self.write_again(deed[1])
        elif kind == "if":
            self.write_if(deed, out)
        elif kind == "pick":
            starts = [self.label() for _ in deed[1]]
            self.put(("pick", starts), False)
            self.write_ways(starts, [(body, out, False) for body in deed[1]])
        elif kind == "call":
            self.write_call(deed, out)
        elif kind == "take":
            self.put(("take", deed[1]), False)
            self.write(deed[2], None)
            self.put(("free",), True)
        elif kind == "offer":
            self.write_offer(deed, out)
        elif kind == "nest":
            self.put(("nest", tuple(deed[1])), False)
            self.write(deed[2], None)
            self.put(("close",), False)
            self.has_closed = True
        else:
            self.put(deed, kind == "set")

    def write_leave(self, out):
        """A nest behind which "go" alone leads to "over" is closed last: a "leave" in between has to be more."""
        if self.has_closed:
            self.put(("unless", UNASKED, out), True)
        self.put(("go", out), True)

    def write_again(self, body):
        start = self.label()
        end = self.label()
        self.set_label(start)
        self.write(body, end)
        self.put(("go", start), True)
        self.set_label(end)

    def write_if(self, deed, out):
        """The first body goes on behind the second one."""
        start = self.label()
        end = self.label()
        self.put(("unless", deed[1], start), True)
        self.write(deed[2], out)
        if deed[3]:
            self.put(("go", end), True)
        self.set_label(start)
        self.write(deed[3], out)
        self.set_label(end)

    def write_call(self, deed, out):
        start = self.label()
        end = self.label()
        self.put(("call", deed[1], deed[2], start), False)
        if deed[3]:
            self.put(("go", end), True)
        self.set_label(start)
        self.write(deed[3], out)
        self.set_label(end)

    def write_offer(self, deed, out):
        _, arms, other = deed
        starts = [self.label() for _ in arms]
        told = [(arm[0], arm[1], starts[at]) for at, arm in enumerate(arms)]
        ways = [(arm[2], None, True) for arm in arms]
        if other is not None and other[0] == "else":
            start = self.label()
            self.put(("offer", told, ("else", start)), False)
            self.write_ways(starts + [start], ways + [(other[1], out, False)])
        else:
            self.put(("offer", told, other), False)
            self.write_ways(starts, ways)

    def write_ways(self, starts, ways):
        """Bodies one behind another, each of which goes on behind the last one; of an arm its caller is let go."""
        end = self.label()
        for at, (body, out, is_arm) in enumerate(ways):
            self.set_label(starts[at])
            self.write(body, out)
            if is_arm:
                self.put(("free",), True)
            if at < len(ways) - 1:
                self.put(("go", end), True)
        self.set_label(end)

    def placed(self, row):
        """A row with places for labels."""
        kind = row[0]
        if kind in ("go", "unless", "call"):
            return row[:-1] + (self.labels[row[-1]],)
        if kind == "pick":
            return kind, [self.labels[start] for start in row[1]]
        if kind != "offer":
            return row
        arms = [(flag, entry, self.labels[start]) for flag, entry, start in row[1]]
        other = row[2]
        if other is not None and other[0] == "else":
            other = ("else", self.labels[other[1]])
        return kind, arms, other

    def code_rows(self):
        return [(self.placed(row), on) for row, on in self.rows]


def compiled(program):
    rows = {}
    for task in program.tasks():
        writer = Writer(program.body(task))
        rows[task] = writer.code_rows()
    return Code(rows, program.things())
