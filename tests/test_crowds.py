"""Points 44 and 45: like ones, spots, runs of so many of them."""

import unittest

from meettasks.bodies import deeds_along
from meettasks.crowdruns import CrowdRun
from meettasks.crowds import Crowd
from meettasks.errors import BadLike, BadMany, BadStep
from meettasks.programs import Program
from meettasks.runs import Run
from meettasks.servers import Servers
from tests.crowdmakers import GUEST, NOTE, SWITCH, crowd_world, door, example_50, example_50_twice, made_up_crowd
from tests.makers import nest
from tests.objects import any_objects, raised

IN, OUT = ("like", (0, 0, 0)), ("like", (0, 0, 2))


def knowns_by_text(crowd):
    """The known stands by stepping a program in which a task for each entry that is called calls it at any time."""
    servers = crowd.servers()
    deeds = [deed for _, deed in deeds_along(crowd.body())]
    calls = [deed for deed in deeds if deed[0] == "call"]
    uses = sorted({deed for deed in deeds if deed[0] == "use"})
    tasks = {task: servers.program().body(task) for task in servers.names()}
    for at, call in enumerate(calls):
        for turn in range(3):
            # As a server can hold several of one entry at a time, each is called by several tasks.
            tasks["x" + "abcdefgh"[at] + "abc"[turn]] = [("again", [call])]
    if uses:
        tasks["xx"] = [("again", [("pick", [[use] for use in uses] + [[("note", "x")]])])]
    run = Run(Program(nest(tasks), servers.program().things()), [("main", "begin")])
    # Whoever calls has called: rows that are never empty.
    names = sorted(set(tasks) - set(servers.names()) - {"xx"})
    seen = {}
    coming = [run]
    found = {}
    for run in coming:
        for name in names:
            if run.how(name) == "ready":
                run = run.more([(name, "call")])
        key = (tuple((run.place(task), tuple(run.flags(task))) for task in servers.names()),
               tuple(run.value(name) for name in servers.program().things()),
               run.place("xx") if uses else None)
        if key not in seen:
            seen[key] = True
            found[key[:2]] = True
            coming += [run.more([step]) for step in run.let()]
    return sorted(found)


class CrowdTest(unittest.TestCase):

    def test_example(self):
        crowd = example_50()
        self.assertEqual(crowd.servers(), door("in", "out"))
        self.assertEqual(crowd.body(), [("again", (("call", "door", "in", ()), ("note", "x"),
                                                   ("call", "door", "out", ())))])
        self.assertEqual(crowd.spots(), [
            ("calling", (0, 0, 0)), ("calling", (0, 0, 2)), ("ended", ()), ("met", (0, 0, 0)), ("met", (0, 0, 2)),
            ("ready", (0, 0, 0)), ("ready", (0, 0, 1)), ("ready", (0, 0, 2))])
        self.assertEqual(crowd.knowns(), [((((0, 0, 0), ()),), ()), ((((0, 0, 1), ()),), ())])
        crowd.spots().clear()
        crowd.body().clear()
        crowd.knowns().clear()
        self.assertEqual([len(crowd.spots()), len(crowd.body()), len(crowd.knowns())], [8, 1, 2])

    def test_entries_that_nobody_calls(self):
        crowd = Crowd(body=(("note", "x"), ["call", "door", "in", ()]), servers=door("in", "out"))
        self.assertEqual(crowd.knowns(), [((((0, 0, 0), ()),), ()), ((((0, 0, 1), ()),), ())])
        crowd = Crowd(door("in", "out"), [("call", "door", "out", [])])
        self.assertEqual(crowd.knowns(), [((((0, 0, 0), ()),), ())])
        self.assertEqual(crowd.spots(), [("calling", (0,)), ("ended", ()), ("met", (0,)), ("ready", (0,))])

    def test_uses_lead_values(self):
        servers = Servers(Program(nest({"s": [("again", [("take", "e", []), ("use", "t", "cut")])]}), {"t": SWITCH}))
        crowd = Crowd(servers, [("use", "t", "turn"), ("call", "s", "e", [])])
        self.assertEqual(crowd.knowns(), [((((0, 0, at), ()),), (value,)) for at in (0, 1) for value in ("off", "on")])
        run = CrowdRun(crowd, 1, [("like", (0,)), ("like", (1,)), ("s", "take")])
        self.assertEqual([run.known(), run.counts()], [((((0, 0, 1), ()),), ("on",)), {("ended", ()): 1}])
        self.assertEqual(run.more([("s", "use")]).known(), ((((0, 0, 0), ()),), ("off",)))

    def test_several_things(self):
        body = [("again", [("take", "e", []), ("use", "b", "turn")])]
        servers = Servers(Program(nest({"s": body}), {"a": SWITCH, "b": SWITCH, "c": SWITCH}))
        run = CrowdRun(Crowd(servers, [("use", "a", "turn"), ("call", "s", "e", []), ("use", "c", "turn")]), 1)
        values = []
        for step in (("like", (0,)), ("like", (1,)), ("s", "take"), ("s", "use"), ("like", (2,))):
            run = run.more([step])
            values.append(run.known()[1])
        self.assertEqual(values, [("on", "off", "off")] * 3 + [("on", "on", "off"), ("on", "on", "on")])

    def test_knowns_by_stepping(self):
        many = 0
        for seed in range(40):
            crowd = made_up_crowd(seed)
            if len(crowd.knowns()) <= 24:
                self.assertEqual(crowd.knowns(), knowns_by_text(crowd))
                many += len(crowd.knowns()) > 5
        self.assertGreater(many, 5)

    def test_equal(self):
        self.assertEqual(example_50(), Crowd(door("in", "out"), tuple(GUEST)))
        self.assertNotEqual(example_50(), example_50_twice())
        self.assertNotEqual(example_50(), Crowd(door("in", "out"), GUEST + [("note", "x")]))
        for thing in any_objects():
            self.assertFalse(example_50() == thing)

    def test_errors(self):
        servers = Servers(Program(nest({"door": [("again", [("take", "in", []), ("take", "out", [])])],
                                        "v": [("again", [("note", "x")])]}), {"t": SWITCH}))
        note, call = ("note", "x"), ("call", "door", "in", [])
        for thing in any_objects():
            error = raised(Crowd, servers, thing)
            self.assertIsInstance(error, BadLike)
            self.assertEqual(error.path, (0,) if isinstance(thing, (list, tuple)) and thing else ())
        for body, path in (
                ([], ()), ([("again", [("leave",)])], ()), ([note, ("set", "f", True)], (1,)),
                ([note, ("if", "f", [None], [])], (1,)), ([("take", "in", [])], (0,)),
                ([note, ("wait", "t", "have")], (1,)), ([("abort", "door")], (0,)), (nest({"p": []}), (0,)),
                ([("offer", [(None, "in", [])], None)], (0,)), ([note, ("leave",)], (1,)),
                ([("pick", [[note], [("leave",)]])], (0, 1, 0)), ([("again", [])], (0,)),
                ([note, ("again", [("again", [("leave",)])])], (1,)), ([("use", "t", "have")], (0,)),
                ([("use", "z", "turn")], (0,)), ([call, ("call", "door", "out", [note])], (1,)),
                ([call, ("pick", [[], [call]])], (1, 1, 0)), ([("call", "main", "in", [])], (0,)),
                ([("call", "v", "in", [])], (0,)), ([("call", "w", "in", [])], (0,)),
                ([("pick", [[note]])], (0,)), ([("again", [note, "note"])], (0, 0, 1)), ([note, ("note", "X")], (1,))):
            error = raised(Crowd, servers, body)
            self.assertIsInstance(error, BadLike)
            self.assertEqual(error.path, path)
        self.assertEqual(Crowd(servers, [("again", [("leave",)]), note]).spots(), [("ended", ()), ("ready", (1,))])


def state_of_run(run, likes, servers):
    """The known stand and the counts that a run of a program with so many tasks of one body tells."""
    counts = {}
    for task in likes:
        how = run.how(task)
        spot = ("ended", ()) if how == "ended" else (how, run.place(task))
        counts[spot] = counts.get(spot, 0) + 1
    known = (tuple((run.place(task), tuple(run.flags(task))) for task in servers.names()),
             tuple(run.value(name) for name in servers.program().things()))
    return known, dict(sorted(counts.items()))


class CrowdRunTest(unittest.TestCase):

    def test_example(self):
        run = CrowdRun(example_50_twice(), 2)
        self.assertEqual([run.let(), run.steps(), run.counts()], [[IN], [], {("ready", (0, 0, 0)): 2}])
        run = run.more([IN, IN, ("door", "take"), ["door", "take"]])
        self.assertEqual(run.counts(), {NOTE: 2})
        self.assertEqual(run.known(), ((((0, 0, 2), ()),), ()))
        self.assertEqual(run.steps(), [IN, IN, ("door", "take"), ("door", "take")])
        self.assertEqual(run.let(), [("like", (0, 0, 1))])
        self.assertEqual(CrowdRun(example_50(), 0).let(), [])
        self.assertEqual(CrowdRun(example_50(), 0).counts(), {})
        self.assertEqual(CrowdRun(steps=(["like", [0, 0, 0]],), many=1, crowd=example_50()).steps(), [IN])

    def test_a_server_called_like(self):
        servers = Servers(Program(nest({"like": [("again", [("pick", [[("take", "e", [])], [("note", "x")]])])]})))
        run = CrowdRun(Crowd(servers, [("pick", [[("call", "like", "e", [])], []])]), 2)
        self.assertEqual(run.let(), [("like", "pick", 0), ("like", "pick", 1), ("like", (0,), 0), ("like", (0,), 1)])
        run = run.more([("like", [0], 0), ("like", "pick", 1), ("like", (0, 0, 0))])
        self.assertEqual(run.let(), [("like", "note"), ("like", (0,), 0), ("like", (0,), 1)])
        self.assertEqual(run.steps(), [("like", (0,), 0), ("like", "pick", 1), ("like", (0, 0, 0))])

    def test_as_runs_of_programs(self):
        for seed in range(60):
            crowd = made_up_crowd(seed)
            for many in (1, 3):
                self.check_as_program(crowd, many, seed)

    def check_as_program(self, crowd, many, seed):
        servers = crowd.servers()
        likes = ["x" + sign for sign in "abc"[:many]]
        tasks = {task: servers.program().body(task) for task in servers.names()}
        tasks.update({task: crowd.body() for task in likes})
        run = Run(Program(nest(tasks), servers.program().things()), [("main", "begin")])
        told = CrowdRun(crowd, many)
        for turn in range(14):
            self.assertEqual((told.known(), told.counts()), state_of_run(run, likes, servers))
            self.assertEqual(list(told.counts()), sorted(told.counts()))
            steps = {}
            for step in run.let():
                as_like = ("like", run.place(step[0])) + step[2:] if step[0] in likes else step
                steps.setdefault(as_like, step)
            self.assertEqual(told.let(), [step for step in steps if step[0] != "like"]
                             + sorted(step for step in steps if step[0] == "like"))
            if not steps:
                break
            step = told.let()[(seed * 7 + turn * 3) % len(told.let())]
            run, told = run.more([steps[step]]), told.more([step])

    def test_more_harm_nobody(self):
        for seed in range(30):
            crowd = made_up_crowd(seed)
            few, more = CrowdRun(crowd, 2), CrowdRun(crowd, 5)
            home = list(CrowdRun(crowd, 1).counts())[0]
            for turn in range(12):
                counts = {spot: more.counts().get(spot, 0) - few.counts().get(spot, 0) for spot in more.counts()}
                self.assertEqual({spot: counts[spot] for spot in counts if counts[spot]}, {home: 3})
                self.assertEqual(few.known(), more.known())
                self.assertLessEqual(set(few.let()), set(more.let()))
                if few.let():
                    step = few.let()[turn % len(few.let())]
                    few, more = few.more([step]), more.more(steps=[step])

    def test_equal(self):
        run = CrowdRun(example_50(), 1, [IN, ("door", "take"), ("like", (0, 0, 1)), OUT, ("door", "take")])
        self.assertEqual(run, CrowdRun(example_50(), 1))
        self.assertNotEqual(run, CrowdRun(example_50(), 2))
        self.assertNotEqual(run, CrowdRun(example_50(), 1, [IN]))
        self.assertNotEqual(CrowdRun(example_50(), 0), CrowdRun(example_50_twice(), 0))
        for thing in any_objects() + [example_50()]:
            self.assertFalse(run == thing)

    def test_errors(self):
        for thing in any_objects():
            if type(thing) is not int or thing < 0:
                error = raised(CrowdRun, example_50(), thing, None)
                self.assertIsInstance(error, BadMany)
                self.assertIs(error.thing, thing)
            if thing not in ([], ()):
                for error in (raised(CrowdRun, example_50(), 1, thing), raised(CrowdRun(example_50(), 1).more, thing)):
                    self.assertIsInstance(error, BadStep)
                    self.assertEqual(error.index, 0)
        run = CrowdRun(example_50(), 2, [IN])
        for step in any_objects() + [("door", "note"), ("door", "take", 0), ("door", "arm", 0), ("like", (0, 0, 1)),
                                     ("like", (0, 0, 0), 0), ("like", (False, 0, 0)), ("like",), ("zz", "take"),
                                     ("like", "take"), ("door", (0, 0, 0))]:
            error = raised(run.more, [IN, step])
            self.assertIsInstance(error, BadStep)
            self.assertEqual(error.index, 1)
        self.assertEqual(raised(CrowdRun, example_50(), 1, [IN, IN]).index, 1)
        self.assertEqual(len(crowd_world(example_50(), 1)), 5)


if __name__ == "__main__":
    unittest.main()
