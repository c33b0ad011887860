"""Servers and crowds for tests: the door of point 50, and many that are made up; own counts by plain stepping."""

import random

from meettasks.bodies import entries_in
from meettasks.crowdruns import CrowdRun
from meettasks.crowds import Crowd
from meettasks.errors import BadBody, BadLike, BadServers
from meettasks.programs import Program
from meettasks.servers import Servers
from meettasks.things import Thing
from tests.makers import nest

SWITCH = Thing(["off", "on"], "off", {"cut": {"off": "off", "on": "off"}, "turn": {"off": "on", "on": "off"}},
               {"have": {"on": "off"}})
GUEST = [("again", [("call", "door", "in", []), ("note", "x"), ("call", "door", "out", [])])]
NOTE = ("ready", (0, 0, 1))


def door(*entries):
    return Servers(Program(nest({"door": [("again", [("take", entry, []) for entry in entries])]})))


def example_50():
    return Crowd(door("in", "out"), GUEST)


def example_50_twice():
    return Crowd(door("in", "in", "out", "out"), GUEST)


class ServerMaker:
    """Makes up bodies of servers, and of like ones."""

    def __init__(self, seed):
        self.luck = random.Random(seed)

    def inner(self, entries, deep):
        return self.deeds(entries, 2, deep - 1) if deep > 0 and self.luck.random() < 0.4 else []

    def deeds(self, entries, most, deep):
        return [self.deed(entries, deep) for _ in range(self.luck.randint(1, most))]

    def deed(self, entries, deep):
        kind = self.luck.choice(["take", "take", "take", "offer", "offer", "note", "pick", "use", "set", "if"])
        if kind == "take":
            return "take", self.luck.choice(entries), self.inner(entries, deep)
        if kind == "offer":
            arms = [(self.luck.choice([None, None, "f"]), self.luck.choice(entries), self.inner(entries, deep))
                    for _ in range(self.luck.randint(1, 2))]
            return "offer", arms, None
        if kind == "pick":
            return "pick", [self.inner(entries, deep), self.inner(entries, deep)]
        if kind == "if":
            return "if", "f", self.inner(entries, deep), self.inner(entries, deep)
        return {"note": ("note", "n"), "use": ("use", "t", self.luck.choice(["cut", "turn"])),
                "set": ("set", "f", self.luck.random() < 0.6)}[kind]

    def servers(self):
        while True:
            tasks = {"s": [("again", self.deeds("ab", 3, 2))]}
            if self.luck.random() < 0.5:
                tasks["v"] = [("again", self.deeds("cd", 3, 2))]
            try:
                return Servers(Program(nest(tasks), {"t": SWITCH}))
            except (BadBody, BadServers):
                continue

    def like_deeds(self, calls, most, deep, loop):
        found = []
        for _ in range(self.luck.randint(1, most)):
            kind = self.luck.choice(["note", "call", "call", "call", "pick", "use", "again", "leave"])
            if kind == "call" and calls:
                found.append(("call",) + calls.pop(self.luck.randrange(len(calls))) + ([],))
            elif kind == "pick" and deep:
                found.append(("pick", [self.like_deeds(calls, many, deep - 1, loop) for many in (2, 1)]))
            elif kind == "again" and deep:
                found.append(("again", self.like_deeds(calls, 2, deep - 1, True)))
            elif kind == "leave" and loop:
                found.append(("leave",))
            elif kind in ("note", "use"):
                found.append(("note", "x") if kind == "note" else ("use", "t", "turn"))
        return found

    def crowd(self):
        while True:
            servers = self.servers()
            calls = [(task, entry) for task in servers.names() for entry in entries_in(servers.program().body(task))]
            body = self.like_deeds(calls, 3, 2, False)
            try:
                return Crowd(servers, [("again", body)] if self.luck.random() < 0.6 else body)
            except BadLike:
                continue


def made_up_crowd(seed):
    return ServerMaker(seed).crowd()


def made_up_servers(seed):
    return ServerMaker(seed).servers()


def crowd_key(run):
    return run.known(), tuple(run.counts().items())


def crowd_world(crowd, many, most=1500):
    """All stands of so many like ones with how few steps lead there; None if there are more than most."""
    start = CrowdRun(crowd, many)
    found = {crowd_key(start): 0}
    coming = [start]
    for run in coming:
        if len(coming) > most:
            return None
        for step in run.let():
            further = run.more([step])
            if crowd_key(further) not in found:
                found[crowd_key(further)] = len(further.steps())
                coming.append(further)
    return found


def worlds_of(crowd, most_many, most=1500):
    """The worlds of 0, 1, .. like ones, as long as they are small enough."""
    found = []
    for many in range(most_many + 1):
        world = crowd_world(crowd, many, most)
        if world is None:
            break
        found.append(world)
    return found
