"""Programs for tests: those of the document, and many small ones that are made up by numbers."""

import random

from meettasks.bodies import bodies_in, deed_at, entries_in
from meettasks.errors import BadBody
from meettasks.programs import Program
from meettasks.things import Thing

LOCK = Thing(["free", "kept"], "free", {"give": {"free": "free", "kept": "free"}}, {"have": {"free": "kept"}})
CELL = Thing(["no", "one", "two"], "no", {"put": {"no": "one", "one": "two", "two": "two"}},
             {"get": {"one": "no", "two": "one"}, "all": {"two": "no"}})


def nest(tasks, body=()):
    return [("nest", tasks, list(body))]


def example_11():
    return Program(nest({"a": [("call", "b", "e", []), ("note", "x")], "b": [("take", "e", [("note", "y")])]}))


def example_19():
    return Program(nest({"a": [("call", "c", "e", [])], "b": [("call", "c", "e", [])],
                         "c": [("take", "e", []), ("take", "e", [])]}))


def example_19_notes():
    return Program(nest({"a": [("note", "x"), ("note", "y")], "b": [("note", "z")]}))


def example_26():
    return Program(nest({"s": [("again", [("offer", [(None, "a", []), (None, "b", [])], None)])],
                         "x": [("call", "s", "a", [])], "y": [("again", [("call", "s", "b", [])])]}))


def example_26_less():
    return Program(nest({"s": [("again", [("offer", [(None, "a", []), (None, "b", [])], None)])],
                         "y": [("call", "s", "b", [])]}))


def example_33():
    task = [("wait", "t", "have"), ("use", "t", "give")]
    return Program(nest({"x": task, "y": task}), {"t": LOCK})


def example_33_server():
    return Program(nest({"s": [("again", [("offer", [(None, "a", [])], None)])], "x": [("call", "s", "a", [])]}))


class Maker:
    """Makes up a body; what a program does not let is made a note by mended()."""

    def __init__(self, seed, rich):
        self.luck = random.Random(seed)
        self.rich = rich
        self.left = 0

    def word(self, words):
        return self.luck.choice(words)

    def body(self, tasks, deep, most):
        return [self.deed(tasks, deep) for _ in range(self.luck.randint(0, most))]

    def deed(self, tasks, deep):
        kinds = ["note", "call", "call", "take", "take", "use", "wait", "offer", "set"]
        if self.rich:
            kinds += ["abort", "if", "pick", "again", "leave", "offer", "offer", "nest"]
        kind = self.luck.choice(kinds)
        if kind == "note":
            return ["note", self.word("xy")]
        if kind == "set":
            return ["set", "f", self.luck.random() < 0.7]
        if kind == "leave":
            return ["leave"]
        if kind == "abort":
            return ["abort", self.word(tasks)]
        if kind in ("use", "wait"):
            name, deeds, entries = self.luck.choice([("t", ["give"], ["have"]), ("u", ["put"], ["get", "all"])])
            return [kind, name, self.word(deeds if kind == "use" else entries)]
        if deep == 0 and kind not in ("call", "take"):
            return ["note", "z"]
        inner = lambda: self.body(tasks, max(0, deep - 1), 1 if deep else 0)
        if kind == "call":
            return ["call", self.word(tasks), self.word("eg"), inner()]
        if kind == "take":
            return ["take", self.word("eg"), inner()]
        if kind == "if":
            return ["if", "f", inner(), inner()]
        if kind == "pick":
            return ["pick", [inner(), inner()]]
        if kind == "again":
            return ["again", self.body(tasks, max(0, deep - 1), 2)]
        if kind == "nest":
            return ["nest", {self.word("pqr"): inner()}, inner()]
        arms = [[self.luck.choice([None, None, "f"]), self.word("eg"), inner()]
                for _ in range(self.luck.randint(1, 2))]
        return ["offer", arms, self.luck.choice([None, ["end"], ["else", inner()]])]


def put_note(body, path):
    """Puts a note in the place of the deed at a path of a body made of lists."""
    for at in range(1, len(path), 2):
        body = bodies_in(body[path[at - 1]])[path[at]]
    body[path[-1]] = ["note", "z"]


def bodies_by_task(body, found):
    for deed in body:
        for inner in bodies_in(deed):
            bodies_by_task(inner, found)
        if deed[0] == "nest":
            for task in sorted(deed[1]):
                found.setdefault(task, deed[1][task])
                bodies_by_task(deed[1][task], found)
    return found


def mend(bodies, task, path):
    """Gives a task the entry that a call of it lacks, else puts a note where the fault is."""
    deed = deed_at(bodies[task], path)
    if deed[0] == "call" and deed[1] in bodies and deed[1] != "main":
        if deed[2] not in entries_in(bodies[deed[1]]):
            bodies[deed[1]].append(["take", deed[2], []])
            return
    put_note(bodies[task], path)


def mended(body, things):
    """The program with this body, notes in the places of deeds that it does not let."""
    while True:
        try:
            return Program(body, things)
        except BadBody as error:
            bodies = bodies_by_task(body, {"main": body})
            mend(bodies, error.task, error.path)


def made_up(seed, many=3, most=3, rich=True):
    """A program of main and so many tasks, with two things."""
    maker = Maker(seed, rich)
    names = ["a", "b", "c", "d"][:many]
    tasks = {name: maker.body(names, 2, most) for name in names}
    inner = maker.body(names, 1, 1) if rich else []
    body = [["nest", tasks, inner]]
    if rich and maker.luck.random() < 0.2:
        body = [["again", body]]
    return mended(body, {"t": LOCK, "u": CELL})


def small_programs(many, seeds, most_stands, **shape):
    """The first so many made up programs that have at most so many stands."""
    found = []
    for seed in seeds:
        program = made_up(seed, **shape)
        if 3 < count_stands(program, most_stands) <= most_stands:
            found.append(program)
            if len(found) == many:
                break
    return found


def count_stands(program, most):
    """How many stands come, by plain stepping; at most one more than most."""
    from meettasks.runs import Run
    seen = {}
    coming = [Run(program)]
    seen[stand_key(coming[0])] = True
    while coming and len(seen) <= most:
        run = coming.pop()
        for step in run.let():
            further = run.more([step])
            if stand_key(further) not in seen:
                seen[stand_key(further)] = True
                coming.append(further)
    return len(seen)


def stand_key(run):
    """All that a run tells of its stand."""
    program = run.program()
    tasks = [(run.place(task), run.how(task), tuple(run.flags(task)), tuple(run.held(task)))
             for task in program.tasks()]
    rows = []
    for task in program.tasks():
        for entry in ("e", "g", "a", "b"):
            rows.append(row_or_none(run, task, entry))
    values = [run.value(thing) for thing in program.things()]
    for thing in program.things():
        for entry in program.things()[thing].entries():
            rows.append(tuple(run.row(thing, entry)))
    return tuple(tasks), tuple(rows), tuple(values)


def row_or_none(run, owner, entry):
    from meettasks.errors import NoEntry
    try:
        return tuple(run.row(owner, entry))
    except NoEntry:
        return None


def servers(seed):
    """A program of tasks that mostly go on for ever: servers, their callers, users of things."""
    luck = random.Random(seed)

    def little():
        return luck.choice([[], [], [["note", "x"]], [["set", "f", True]], [["set", "f", False]],
                            [["use", "u", "put"]], [["wait", "t", "have"]]])

    def server():
        arms = [[luck.choice([None, None, "f"]), entry, little()] for entry in "eg"[:luck.randint(1, 2)]]
        other = luck.choice([None, None, None, ["else", [["note", "y"]]], ["end"]])
        return [["again", little() + [luck.choice([["offer", arms, other], ["offer", arms, other],
                                                   ["take", "e", little()]])]]]

    def caller():
        some = [luck.choice([["call", luck.choice("sv"), luck.choice("eg"), []], ["use", "t", "give"],
                             ["wait", "t", "have"], ["wait", "u", luck.choice(["get", "all"])], ["use", "u", "put"],
                             ["call", "s", luck.choice("eg"), [["leave"]]], ["if", "f", [["leave"]], []],
                             ["pick", [[["leave"]], [["note", "z"]]]]])
                for _ in range(luck.randint(1, 3))]
        return [["again", some]] if luck.random() < 0.6 else [part for part in some if part[0] != "again"]

    tasks = {"s": server(), "v": luck.choice([server, caller])(), "x": caller(), "y": caller()}
    if luck.random() < 0.5:
        del tasks["y"]
    if luck.random() < 0.3:
        tasks["z"] = [["abort", luck.choice("svx")]]
    return mended([["nest", tasks, []]], {"t": LOCK, "u": CELL})


def markets(seed):
    """A program in which who waits for ever hangs on what is fair: servers with arms, callers that go on and on."""
    luck = random.Random(seed)

    def server():
        arms = [[luck.choice([None, None, None, "f"]), entry, luck.choice([[], [], [["note", "x"]]])]
                for entry in ("e", "g", "h")[:luck.randint(2, 3)]]
        row = [["offer", arms, luck.choice([None, None, ["else", []]])]]
        if luck.random() < 0.3:
            row = row + [["pick", [[["set", "f", True]], [["set", "f", False]]]]]
        if luck.random() < 0.3:
            row = row + [["offer", [arms[0][:2] + [[]]], luck.choice([None, ["else", []]])]]
        return [["again", row]]

    def caller(often):
        calls = [["call", luck.choice("ssv"), luck.choice("eg"), []] for _ in range(luck.randint(1, 2))]
        return [["again", calls]] if luck.random() < often else calls

    tasks = {"s": server(), "x": caller(0.3), "y": caller(0.9)}
    if luck.random() < 0.4:
        tasks["z"] = caller(0.9)
    if luck.random() < 0.4:
        tasks["v"] = server()
    return mended([["nest", tasks, []]], {"t": LOCK, "u": CELL})
