"""Point 43: servers, known stands."""

import unittest

from meettasks.errors import BadServers
from meettasks.programs import Program
from meettasks.runs import Run
from meettasks.servers import Servers
from tests.crowdmakers import SWITCH, door, made_up_servers
from tests.makers import nest
from tests.objects import any_objects, raised

TAKE = [("again", [("take", "e", [])])]


class ServersTest(unittest.TestCase):

    def test_ordinary(self):
        program = Program(nest({"z": TAKE, "b": [("again", [("set", "f", True), ("pick", [[("take", "e", [])], []]),
                                                            ("again", [("note", "x"), ("leave",)])])]}),
                          {"t": SWITCH, "a": SWITCH})
        servers = Servers(program=program)
        self.assertEqual(servers.program(), program)
        self.assertEqual(servers.names(), ["b", "z"])
        self.assertEqual(servers.first(), ((((0, 0, 1), ("f",)), ((0, 0, 0), ())), ("off", "off")))
        servers.names().append("c")
        self.assertEqual(servers.names(), ["b", "z"])

    def test_first_as_in_a_run(self):
        for seed in range(60):
            servers = made_up_servers(seed)
            run = Run(servers.program(), [("main", "begin")])
            self.assertEqual(servers.first(), (tuple((run.place(task), tuple(run.flags(task)))
                                                     for task in servers.names()),
                                               tuple(run.value(name) for name in servers.program().things())))

    def test_flags_ascending(self):
        body = [("again", [("set", "g", True), ("set", "f", True), ("set", "h", True), ("set", "h", False),
                           ("take", "e", [])])]
        self.assertEqual(Servers(Program(nest({"a": body}))).first(), ((((0, 0, 4), ("f", "g")),), ()))

    def test_equal(self):
        self.assertEqual(door("in", "out"), door("in", "out"))
        self.assertNotEqual(door("in", "out"), door("out", "in"))
        for thing in any_objects() + [door("in").program()]:
            self.assertFalse(door("in") == thing)

    def test_errors(self):
        note = ("note", "x")
        for body in ([], [note], nest({"a": TAKE}) + [note], nest({"a": TAKE}, [note]),
                     [("nest", {"a": TAKE}, []), ("nest", {"b": TAKE}, [])], [("again", nest({"a": TAKE}))]):
            error = raised(Servers, Program(body))
            self.assertIsInstance(error, BadServers)
            self.assertEqual((error.task, error.path), ("main", ()))
        call = ("call", "s", "e", [])
        for tasks, task, path in (
                ({"a": [], "b": [note]}, "a", ()), ({"a": TAKE, "b": []}, "b", ()),
                ({"a": [note]}, "a", (0,)), ({"a": TAKE + [note]}, "a", (1,)), ({"a": [note] + TAKE}, "a", (0,)),
                ({"a": TAKE, "b": [("take", "e", [])]}, "b", (0,)),
                ({"a": [("again", [note, ("leave",)])]}, "a", (0, 0, 1)),
                ({"a": [("again", [note, ("if", "f", [("leave",)], [])])] + [note]}, "a", (0, 0, 1, 0, 0)),
                ({"a": [("again", [("again", [note, ("leave",)]), ("pick", [[], [("leave",)]])])]}, "a",
                 (0, 0, 1, 1, 0)),
                ({"s": TAKE, "a": [("again", [call])]}, "a", (0, 0, 0)),
                ({"s": TAKE, "a": [("again", [("take", "e", [("pick", [[], [call]])])])]}, "a", (0, 0, 0, 0, 0, 1, 0)),
                ({"a": [("again", [("wait", "t", "have")])]}, "a", (0, 0, 0)),
                ({"a": [("again", [("abort", "a")])]}, "a", (0, 0, 0)),
                ({"a": [("again", nest({"p": []}))]}, "a", (0, 0, 0)),
                ({"a": [("again", [("offer", [(None, "e", [])], ("end",))])]}, "a", (0, 0, 0)),
                ({"a": [("again", [("offer", [(None, "e", [])], ("else", []))])]}, "a", (0, 0, 0)),
                ({"a": [("again", [("offer", [(None, "e", [note, ("abort", "b")])], None), ("abort", "a")])],
                  "b": []}, "a", (0, 0, 0, 0, 1))):
            error = raised(Servers, Program(nest(tasks), {"t": SWITCH}))
            self.assertIsInstance(error, BadServers)
            self.assertEqual((error.task, error.path), (task, path))


if __name__ == "__main__":
    unittest.main()
