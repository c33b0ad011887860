"""Any objects (point 3), for parameters that take what is no such thing."""

from meettasks.errors import TaskError
from meettasks.programs import Program
from meettasks.runs import Run
from tests.makers import LOCK


def any_objects():
    program = Program([("note", "x")])
    return [([], "note"), ["main", []], ({}, "begin", 0), 0, 1, -1, 10 ** 30, True, False, None, "", "a",
            "main", "weak", "end", "longwordx", "A", [], (), {}, [[]],
            [()], [None], [{}], [0], [True], (0,), ((0,),), [["main"]], [("main", "note")], ("main", (0,)),
            ["main", [0]], ["main", [True]], ("main", ()), ("main", "note"), ("a", (0,), 2), {"a": 1}, {1: 2},
            {(): ()}, {"main": {}}, {"main": "absent"}, {None: [(0, None)]}, [[], []], ([], []), ([()], []),
            ([("main", "begin")], [("main", {})]), program, LOCK, Run(program), [program], [Run(program)], {"a": LOCK},
            [[[[]]]], ("a", "b", "c"), [1, 2, 3], [LOCK, LOCK], ("main", {}, LOCK), [0, 0], [-1], ["x", "x"]]


def raised(work, *parts, **named):
    """The error of ours that a call raises, None if it raises none; any other error comes out."""
    try:
        work(*parts, **named)
    except TaskError as error:
        return error
    return None
