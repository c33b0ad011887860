"""Code for tests: that of the document, and much that is made up by numbers."""

import random

from meettasks.codes import Code
from meettasks.compiling import compiled
from meettasks.errors import BadCode, Silent
from tests.makers import CELL, LOCK, made_up, markets, servers

SILENT = ("set", "unless", "go", "free", "over")
LAST = ("go", "offer", "pick", "over")
OVER = (("over",), True)


def example_81():
    return Code({"main": [(("nest", ["a", "b", "c"]), False), (("close",), False), (("over",), True)],
                 "a": [(("call", "b", "e", 1), False), (("over",), True)],
                 "b": [(("take", "e"), False), (("note", "y"), False), (("free",), True), (("over",), True)],
                 "c": [(("note", "w"), False), (("over",), True)]})


class CodeMaker:
    """Makes up rows; what code does not let is mended by mended_code()."""

    def __init__(self, seed, tasks, most):
        self.luck = random.Random(seed)
        self.names = ["a", "b", "c", "d"][:tasks]
        self.free = list(self.names)
        self.most = most

    def rows(self):
        found = {}
        for task in ["main"] + self.names:
            many = self.luck.randint(1, self.most)
            found[task] = [self.row(many) for _ in range(many)]
        if self.free:
            found["main"][0] = (("nest", self.free), False)
        return found

    def row(self, many):
        kind = self.luck.choice(["note", "set", "unless", "go", "pick", "call", "call", "call", "take", "take", "take",
                                 "offer", "offer", "free", "free", "use", "wait", "nest", "close", "abort", "over"])
        row = (kind,) + self.rest(kind, lambda: self.luck.randrange(many))
        if row == ("nest", []):
            row = ("close",)
        return row, row[0] in SILENT and self.luck.random() < 0.6

    def rest(self, kind, place):
        luck = self.luck
        if kind == "set":
            return "f", luck.random() < 0.6
        if kind == "unless":
            return "f", place()
        if kind == "pick":
            return ([place(), place()],)
        if kind == "call":
            return luck.choice(self.names), luck.choice("eg"), place()
        if kind == "offer":
            arms = [(luck.choice([None, None, "f"]), luck.choice("eg"), place()) for _ in range(luck.randint(1, 2))]
            return arms, luck.choice([None, ("end",), ("end",), ("else", place())])
        if kind == "use":
            return luck.choice([("t", "give"), ("u", "put")])
        if kind == "wait":
            return luck.choice([("t", "have"), ("u", "get"), ("u", "all")])
        if kind == "nest":
            lot = [self.free.pop(luck.randrange(len(self.free))) for _ in range(luck.randint(1, 2)) if self.free]
            return (lot,)
        word = {"note": luck.choice("xy"), "take": luck.choice("eg"), "abort": luck.choice(self.names)}
        return (place(),) if kind == "go" else (word[kind],) if kind in word else ()


def mended_code(rows, things):
    """Code with these rows, where it does not let them with others."""
    while True:
        for task in rows:
            if rows[task][-1][0][0] not in LAST:
                rows[task].append(OVER)
        try:
            return Code(rows, things)
        except BadCode as error:
            row, _ = rows[error.task][error.number]
            if row[0] == "call":
                rows[row[1]].insert(0, (("take", row[2]), False))
            else:
                rows[error.task][error.number] = (("note", "z"), False)
        except Silent as error:
            rows[error.task][error.spot] = (rows[error.task][error.spot][0], False)


def made_up_code(seed, tasks=3, most=6):
    return mended_code(CodeMaker(seed, tasks, most).rows(), {"t": LOCK, "u": CELL})


def twisted_code(seed):
    """What a made up program is compiled to, some rows being cut, led elsewhere, or others."""
    luck = random.Random(seed)
    code = compiled(luck.choice([made_up, servers, markets])(seed))
    rows = {task: code.rows(task) for task in code.tasks()}
    for task in rows:
        for number, (row, on) in enumerate(rows[task]):
            if on and luck.random() < 0.2:
                rows[task][number] = (row, False)
            if row[0] in ("unless", "go", "call") and luck.random() < 0.1:
                rows[task][number] = (row[:-1] + (luck.randrange(len(rows[task])),), on)
            if row[0] in ("free", "close", "note", "set") and luck.random() < 0.1:
                rows[task][number] = luck.choice([(("free",), True), (("note", "y"), False), (("close",), False),
                                                  (("unless", "f", luck.randrange(len(rows[task]))), True)])
    return mended_code(rows, code.things())


def all_codes(seeds):
    for seed in seeds:
        yield twisted_code(seed) if seed % 2 else made_up_code(seed, tasks=2 + seed % 3, most=4 + seed % 5)
