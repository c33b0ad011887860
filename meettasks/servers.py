"""Servers: tasks that take and offer for ever, and call nobody."""

from meettasks.bodies import deed_at, deeds_along
from meettasks.errors import BadServers
from meettasks.knowns import Serving

BARRED = ("call", "wait", "nest", "abort")


def nest_of(program):
    """The words of the tasks of main's nest, ascending; BadServers."""
    body = program.body("main")
    if len(body) != 1 or body[0][0] != "nest" or body[0][2]:
        raise BadServers("main", ())
    return list(body[0][1])


def leaves_first(body, path):
    """Whether the innermost "again" around a "leave" is the first deed of the body."""
    for length in range(len(path) - 2, 0, -2):
        if deed_at(body, path[:length])[0] == "again":
            return length == 1
    return False


def is_against(body, path, deed):
    if len(path) == 1 and (path != (0,) or deed[0] != "again"):
        return True
    if deed[0] == "leave":
        return leaves_first(body, path)
    return deed[0] in BARRED or deed[0] == "offer" and deed[2] is not None


def check_server(task, body):
    if not body:
        raise BadServers(task, ())
    for path, deed in deeds_along(body):
        if is_against(body, path, deed):
            raise BadServers(task, path)


class Servers:
    """The servers of a program; they do not change. What is worked out of them is kept."""

    def __init__(self, program):
        names = nest_of(program)
        for task in names:
            check_server(task, program.body(task))
        self._program = program
        self._names = names
        self.kept = {}

    def __eq__(self, other):
        return isinstance(other, Servers) and self._program == other._program

    def program(self):
        return self._program

    def names(self):
        return list(self._names)

    def first(self):
        serving = serving_of(self)
        return serving.told(serving.start())


def serving_of(servers):
    if "serving" not in servers.kept:
        servers.kept["serving"] = Serving(servers.program())
    return servers.kept["serving"]
