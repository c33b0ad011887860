"""A program for tests that go through several sections."""

from meettasks.programs import Program
from tests.makers import LOCK, nest


def workshop():
    """A worker with a lock takes a guest, or is aborted by a boss; a clock notes something by itself."""
    return Program(nest({
        "boss": [("pick", [[("abort", "worker")], [("note", "calm")]])],
        "clock": [("note", "tick")],
        "guest": [("call", "worker", "in", [("note", "lost")]), ("set", "done", True),
                  ("if", "done", [("note", "home")], [])],
        "worker": [("wait", "lock", "have"), ("offer", [(None, "in", [("note", "work")])], ("end",)),
                   ("use", "lock", "give")]}), {"lock": LOCK})
