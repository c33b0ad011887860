"""Servers met from outside, for tests: made up ones, and own counts by stepping a task that calls a row."""

from meettasks.bodies import bodies_in
from meettasks.errors import Restless
from meettasks.outside import entries_of
from meettasks.programs import Program
from meettasks.runs import Run
from meettasks.servers import Servers
from tests.crowdmakers import SWITCH, ServerMaker
from tests.makers import nest, stand_key

X, Y = ("s", "x"), ("s", "y")


def of_body(*deeds, **others):
    """The server s with this body, and others by their words."""
    tasks = {"s": [("again", list(deeds))]}
    tasks.update({word: [("again", body)] for word, body in others.items()})
    return Servers(Program(nest(tasks), {"t": SWITCH}))


def example_57_one():
    return of_body(("offer", [(None, "x", []), (None, "y", [])], None))


def example_57_other():
    return of_body(("pick", [[("take", "x", [])], [("take", "y", [])]]))


def no_meetings(body):
    """A body without takes, offers and agains in it."""
    return [deed for deed in body if deed[0] not in ("take", "offer", "again", "leave")
            and not any(inner != no_meetings(inner) for inner in bodies_in(deed))]


def calm(body):
    """A body in whose takes and arms nothing meets."""
    found = []
    for deed in body:
        if deed[0] == "take":
            found.append(("take", deed[1], no_meetings(deed[2])))
        elif deed[0] == "offer":
            found.append(("offer", [(arm[0], arm[1], no_meetings(arm[2])) for arm in deed[1]], None))
        elif deed[0] == "pick":
            found.append(("pick", [calm(inner) for inner in deed[1]]))
        elif deed[0] == "if":
            found.append(("if", deed[1], calm(deed[2]), calm(deed[3])))
        elif deed[0] == "again":
            found.append(("again", calm(deed[1])))
        else:
            found.append(deed)
    return found


def calm_servers(seed):
    """Servers that are not restless, with two to four entries."""
    maker = ServerMaker(seed)
    while True:
        servers = maker.servers()
        program = servers.program()
        tasks = {task: calm(program.body(task)) for task in servers.names()}
        try:
            servers = Servers(Program(nest(tasks), program.things()))
            if 2 <= len(entries_of(servers)) <= 4:
                return servers
        except (Restless, ValueError):
            continue


def with_caller(servers, row):
    """The program with one more task, that calls the entries of a row, one behind another."""
    tasks = {task: servers.program().body(task) for task in servers.names()}
    tasks["zz"] = [("call", owner, entry, []) for owner, entry in row]
    return Program(nest(tasks), servers.program().things())


def stands_after(servers, row):
    """All runs, one to a stand, at which the row is done."""
    run = Run(with_caller(servers, row), [("main", "begin")])
    seen, coming = {stand_key(run)}, [run]
    for run in coming:
        for step in run.let():
            further = run.more([step])
            if stand_key(further) not in seen:
                seen.add(stand_key(further))
                coming.append(further)
    return [run for run in coming if run.how("zz") == "ended"]


def taken_at(run, servers):
    """The entries that servers take at a stand."""
    found = set()
    for task in servers.names():
        deed = run.program().deed(task, run.place(task))
        if deed[0] == "take":
            found.add((task, deed[1]))
        elif deed[0] == "offer":
            found.update((task, arm[1]) for arm in deed[1] if arm[0] is None or arm[0] in run.flags(task))
    return found


def lots_left(servers, row, entries):
    """The greatest lots with which a row can be left, by stepping."""
    still = [run for run in stands_after(servers, row) if not run.let()]
    lots = {tuple(entry for entry in entries if entry not in taken_at(run, servers)) for run in still}
    greatest = [lot for lot in lots if not any(set(lot) < set(other) for other in lots)]
    return sorted(greatest, key=lambda lot: (len(lot), lot))

