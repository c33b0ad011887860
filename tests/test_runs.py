"""Points 8 to 11: stands, steps, runs."""

import unittest

from meettasks.errors import BadStep, NoEntry, NoTask, NoThing
from meettasks.programs import Program
from meettasks.runs import Run
from meettasks.things import Thing
from tests.makers import CELL, LOCK, example_11, nest
from tests.objects import any_objects, raised

BEGIN = ("main", "begin")


def begun(tasks, inner=(), things=None, steps=()):
    return Run(Program(nest(tasks, inner), things), [BEGIN] + list(steps))


def new_events(run, step):
    return run.more([step]).events()[len(run.events()):]


class ExampleTest(unittest.TestCase):

    def test_example(self):
        program = example_11()
        self.assertEqual(Run(program).let(), [BEGIN])
        run = Run(program, [BEGIN, ("a", "call"), ("b", "take")])
        self.assertEqual(run.how("a"), "met")
        self.assertEqual(run.held("b"), ["a"])
        self.assertEqual(run.row("b", "e"), [])
        self.assertEqual(run.place("b"), (0, 0, 0))
        self.assertEqual(run.let(), [("b", "note")])
        self.assertEqual(run.events(), [("meets", "a", "b", "e")])
        run = run.more([("b", "note")])
        self.assertEqual(run.events(), [("meets", "a", "b", "e"), ("note", "b", "y"), ("apart", "a", "b", "e"),
                                        ("ended", "b")])
        run = run.more([("a", "note"), ("main", "closes")])
        self.assertEqual(run.events()[4:], [("note", "a", "x"), ("ended", "a"), ("ended", "main")])
        self.assertEqual(run.let(), [])
        self.assertEqual(run.place("main"), "ended")


class StandsTest(unittest.TestCase):

    def test_at_first(self):
        run = Run(Program(nest({"a": [("note", "x")]}), {"t": LOCK}))
        self.assertEqual([run.place("main"), run.how("main")], [(0,), "ready"])
        self.assertEqual([run.place("a"), run.how("a"), run.flags("a"), run.held("a")], ["absent", "absent", [], []])
        self.assertEqual(run.value("t"), "free")
        self.assertEqual(run.events(), [])

    def test_main_may_end_ahead_of_any_step(self):
        for body in ([], [("set", "f", True)], [("again", [("leave",)])]):
            run = Run(Program(body))
            self.assertEqual([run.place("main"), run.how("main"), run.let()], ["ended", "ended", []])
            self.assertEqual(run.events(), [("ended", "main")])
            self.assertEqual([run.flags("main"), run.held("main")], [[], []])

    def test_silent_deeds(self):
        body = [("set", "b", True), ("set", "a", True), ("set", "c", True), ("set", "c", False),
                ("if", "a", [("if", "c", [("note", "x")], [("note", "y")])], [("note", "z")])]
        run = Run(Program(body))
        self.assertEqual(run.place("main"), (4, 0, 0, 1, 0))
        self.assertEqual(run.flags("main"), ["a", "b"])
        self.assertEqual(run.more([("main", "note")]).events(), [("note", "main", "y"), ("ended", "main")])
        self.assertEqual(run.more([("main", "note")]).flags("main"), [])

    def test_again_and_leave(self):
        body = [("again", [("note", "x"), ("if", "f", [("leave",)], []), ("again", [("set", "f", True), ("leave",)])]),
                ("note", "y")]
        run = Run(Program(body), [("main", "note")])
        self.assertEqual(run.place("main"), (0, 0, 0))
        self.assertEqual(run.more([("main", "note")]).place("main"), (1,))

    def test_flags_are_a_tasks_own(self):
        run = begun({"a": [("set", "f", True), ("note", "x")], "b": [("if", "f", [("note", "x")], [("note", "y")])]})
        self.assertEqual(run.flags("a"), ["f"])
        self.assertEqual(run.flags("b"), [])
        self.assertEqual(run.place("b"), (0, 1, 0))

    def test_closing_is_told_by_the_nest(self):
        run = begun({"a": [("note", "x")]})
        self.assertEqual([run.place("main"), run.how("main")], [(0,), "closing"])
        self.assertEqual(run.let(), [("a", "note")])
        self.assertFalse(run == Run(run.program()))

    def test_silent_order(self):
        # b's meeting ends: a goes on as far as it comes, first; then c, whom a's end moves.
        tasks = {"a": [("call", "b", "e", []), ("if", "f", [("take", "h", [])], [])],
                 "b": [("take", "e", [("note", "x")]), ("if", "f", [("take", "k", [])], [])],
                 "c": [("call", "a", "h", [])], "d": [("call", "b", "k", [])]}
        run = begun(tasks, (), None, [("a", "call"), ("b", "take"), ("d", "call"), ("c", "call")])
        self.assertEqual(new_events(run, ("b", "note")), [
            ("note", "b", "x"), ("apart", "a", "b", "e"), ("ended", "b"), ("broken", "d", "b", "k"), ("ended", "a"),
            ("broken", "c", "a", "h"), ("ended", "c"), ("ended", "d")])


class StepsTest(unittest.TestCase):

    def test_pick(self):
        run = Run(Program([("pick", [[("note", "x")], [], [("note", "y")]])]))
        self.assertEqual(run.let(), [("main", "pick", 0), ("main", "pick", 1), ("main", "pick", 2)])
        self.assertEqual(run.more([("main", "pick", 2)]).place("main"), (0, 2, 0))
        self.assertEqual(run.more([("main", "pick", 1)]).place("main"), "ended")

    def test_begin_and_close(self):
        tasks = {"b": [("note", "x")], "a": nest({"c": [("note", "y")]})}
        run = Run(Program(nest(tasks, [("note", "z")]) + [("note", "w")]))
        run = run.more([BEGIN])
        self.assertEqual(run.let(), [("main", "note"), ("a", "begin"), ("b", "note")])
        run = run.more([("main", "note"), ("b", "note"), ("a", "begin")])
        self.assertEqual([run.how("main"), run.how("a")], ["closing", "closing"])
        self.assertEqual(run.let(), [("c", "note")])
        run = run.more([("c", "note")])
        self.assertEqual(run.let(), [("a", "closes")])
        run = run.more([("a", "closes")])
        self.assertEqual(run.let(), [("main", "closes")])
        self.assertEqual(run.more([("main", "closes")]).place("main"), (1,))

    def test_begun_anew(self):
        tasks = {"a": [("if", "f", [("note", "y")], []), ("set", "f", True), ("note", "x")]}
        run = Run(Program([("again", nest(tasks))]))
        rounds = [BEGIN, ("a", "note"), ("main", "closes")]
        run = run.more(rounds + [BEGIN])
        self.assertEqual([run.place("a"), run.flags("a")], [(2,), ["f"]])
        self.assertEqual(run.more([("a", "note")]).events(), [("note", "a", "x"), ("ended", "a")] * 2)

    def test_what_was_begun_before_stays(self):
        run = Run(Program([("again", nest({"a": nest({"c": []}) + [("note", "x")]}))]))
        run = run.more([BEGIN, ("a", "begin"), ("a", "closes"), ("a", "note"), ("main", "closes"), BEGIN])
        self.assertEqual([run.place("a"), run.place("c")], [(0,), "ended"])

    def test_rows_are_in_order(self):
        take = ("take", "e", [])
        call = ("call", "s", "e", [])
        run = begun({"a": [call], "b": [call], "c": [call], "s": [take, take, take]})
        run = run.more([("b", "call"), ("c", "call"), ("a", "call")])
        self.assertEqual(run.row("s", "e"), ["b", "c", "a"])
        self.assertEqual([run.how(task) for task in "abcs"], ["calling", "calling", "calling", "ready"])
        run = run.more([("s", "take")])
        self.assertEqual(run.row("s", "e"), ["c", "a"])
        self.assertEqual(run.events(), [("meets", "b", "s", "e"), ("apart", "b", "s", "e"), ("ended", "b")])

    def test_call_of_one_that_has_ended_is_broken(self):
        run = begun({"a": [("call", "s", "e", [("note", "x")]), ("note", "y")],
                     "s": [("pick", [[], [("take", "e", [])]])]})
        run = run.more([("s", "pick", 0)])
        self.assertEqual(new_events(run, ("a", "call")), [("broken", "a", "s", "e")])
        run = run.more([("a", "call")])
        self.assertEqual([run.place("a"), run.how("a")], [(0, 0, 0), "ready"])
        self.assertEqual(run.more([("a", "note")]).place("a"), (1,))

    def test_end_breaks_rows(self):
        tasks = {"a": [("call", "s", "g", [])], "b": [("call", "s", "e", [("note", "x")])],
                 "c": [("call", "s", "e", [])],
                 "s": [("pick", [[], [("take", "e", []), ("take", "g", [])]])]}
        run = begun(tasks, (), None, [("a", "call"), ("c", "call"), ("b", "call")])
        self.assertEqual(new_events(run, ("s", "pick", 0)), [
            ("ended", "s"), ("broken", "c", "s", "e"), ("broken", "b", "s", "e"), ("broken", "a", "s", "g"),
            ("ended", "a"), ("ended", "c")])
        run = run.more([("s", "pick", 0)])
        self.assertEqual([run.row("s", "e"), run.row("s", "g"), run.place("b")], [[], [], (0, 0, 0)])

    def test_offers(self):
        arms = [("f", "e", []), (None, "g", [("note", "x")]), (None, "e", [])]
        tasks = {"a": [("call", "s", "e", [])], "b": [("call", "s", "g", [])],
                 "s": [("offer", arms, ("else", [("set", "f", True), ("offer", arms, None)]))]}
        run = begun(tasks)
        self.assertEqual(run.let()[-1], ("s", "else"))
        late = run.more([("s", "else")])
        self.assertEqual([late.place("s"), late.how("s")], [(0, 3, 1), "ready"])
        self.assertEqual(late.let(), [("a", "call"), ("b", "call")])
        run = run.more([("a", "call"), ("b", "call")])
        self.assertEqual(run.let(), [("s", "arm", 1), ("s", "arm", 2)])
        late = late.more([("b", "call"), ("a", "call")])
        self.assertEqual(late.let(), [("s", "arm", 0), ("s", "arm", 1), ("s", "arm", 2)])
        run = run.more([("s", "arm", 1)])
        self.assertEqual([run.place("s"), run.held("s")], [(0, 1, 0), ["b"]])
        self.assertEqual(new_events(run, ("s", "note")), [
            ("note", "s", "x"), ("apart", "b", "s", "g"), ("ended", "s"), ("broken", "a", "s", "e"), ("ended", "a"),
            ("ended", "b")])

    def test_else_is_barred_by_callers_of_open_arms_alone(self):
        tasks = {"a": [("call", "s", "e", [])], "s": [("offer", [("f", "e", [])], ("else", []))]}
        run = begun(tasks, (), None, [("a", "call")])
        self.assertEqual(run.let(), [("s", "else")])

    def test_held_outermost_first(self):
        tasks = {"a": [("call", "s", "e", [])], "b": [("call", "s", "g", [])],
                 "s": [("take", "e", [("take", "g", [("note", "x")]), ("note", "y")])]}
        run = begun(tasks, (), None, [("b", "call"), ("a", "call"), ("s", "take"), ("s", "take")])
        self.assertEqual(run.held("s"), ["a", "b"])
        self.assertEqual([run.how("a"), run.how("b")], ["met", "met"])
        run = run.more([("s", "note")])
        self.assertEqual(run.held("s"), ["a"])
        self.assertEqual(run.events()[-2:], [("apart", "b", "s", "g"), ("ended", "b")])

    def test_a_task_may_call_itself(self):
        run = begun({"s": [("call", "s", "e", []), ("take", "e", [])]}, (), None, [("s", "call")])
        self.assertEqual([run.row("s", "e"), run.how("s"), run.let()], [["s"], "calling", []])


class ThingsTest(unittest.TestCase):

    def test_use_and_wait(self):
        wait = ("wait", "t", "have")
        run = begun({"x": [wait, ("use", "t", "give")], "y": [wait, ("note", "z")]}, (), {"t": LOCK})
        run = run.more([("x", "wait")])
        self.assertEqual(run.events(), [("served", "x", "t", "have")])
        self.assertEqual([run.value("t"), run.place("x")], ["kept", (1,)])
        run = run.more([("y", "wait")])
        self.assertEqual([run.row("t", "have"), run.how("y"), run.place("y")], [["y"], "waiting", (0,)])
        self.assertEqual(new_events(run, ("x", "use")), [("served", "y", "t", "have"), ("ended", "x")])
        run = run.more([("x", "use")])
        self.assertEqual([run.value("t"), run.row("t", "have"), run.how("y")], ["kept", [], "ready"])

    def test_serving_goes_on_by_the_first_open_entry(self):
        thing = Thing(["no", "one", "two"], "no", {"put": {"no": "two", "one": "two", "two": "two"}},
                      {"b": {"two": "one", "one": "no"}, "a": {"one": "one"}, "c": {"two": "no"}})
        wait = {name: [("wait", "t", name)] for name in "abc"}
        tasks = {"w": wait["b"], "x": wait["b"], "y": wait["a"], "z": wait["c"], "u": [("use", "t", "put")]}
        run = begun(tasks, (), {"t": thing}, [(task, "wait") for task in "zxwy"])
        self.assertEqual(run.row("t", "b"), ["x", "w"])
        self.assertEqual(new_events(run, ("u", "use")), [
            ("served", "x", "t", "b"), ("served", "y", "t", "a"), ("served", "w", "t", "b"),
            ("ended", "u"), ("ended", "w"), ("ended", "x"), ("ended", "y")])
        run = run.more([("u", "use")])
        self.assertEqual([run.value("t"), run.row("t", "c")], ["no", ["z"]])

    def test_a_wait_serves_behind_it(self):
        thing = Thing(["a", "b", "c"], "a", {"to": {"a": "c", "b": "b", "c": "c"}},
                      {"one": {"b": "b"}, "two": {"a": "b"}})
        run = begun({"x": [("wait", "t", "one")], "y": [("wait", "t", "two")]}, (), {"t": thing}, [("x", "wait")])
        self.assertEqual(new_events(run, ("y", "wait")), [
            ("served", "y", "t", "two"), ("served", "x", "t", "one"), ("ended", "x"), ("ended", "y")])


class AbortsTest(unittest.TestCase):

    def test_abort_of_callers_and_their_nests(self):
        # x is in c's row; it leaves it, as what x began does, ahead of all that is broken.
        tasks = {"x": nest({"p": [("call", "x", "k", [])], "q": [("take", "h", [("note", "x")])]},
                           [("take", "k", [("call", "c", "e", [])])]),
                 "c": [("take", "e", [])], "z": [("abort", "x"), ("note", "y")],
                 "y": [("call", "x", "m", [("note", "z")])]}
        tasks["x"] = tasks["x"] + [("take", "m", [])]
        run = begun(tasks, (), None, [("x", "begin"), ("p", "call"), ("x", "take"), ("y", "call"), ("x", "call")])
        self.assertEqual([run.row("c", "e"), run.held("x"), run.how("p")], [["x"], ["p"], "met"])
        self.assertEqual(new_events(run, ("z", "abort")), [
            ("ended", "x"), ("broken", "y", "x", "m"), ("ended", "p"), ("ended", "q")])
        run = run.more([("z", "abort")])
        self.assertEqual([run.row("c", "e"), run.held("x"), run.flags("x"), run.place("p")], [[], [], [], "ended"])
        self.assertEqual([run.place("y"), run.place("z")], [(0, 0, 0), (1,)])

    def test_a_meeting_goes_on_without_the_held_one(self):
        tasks = {"a": [("call", "s", "e", [])], "s": [("take", "e", [("note", "x")]), ("note", "y")],
                 "z": [("abort", "a")]}
        run = begun(tasks, (), None, [("a", "call"), ("s", "take"), ("z", "abort")])
        self.assertEqual(run.held("s"), [None])
        self.assertEqual(run.events()[1:], [("ended", "a"), ("ended", "z")])
        run = run.more([("s", "note")])
        self.assertEqual([run.held("s"), run.place("s"), run.events()[-1]], [[], (1,), ("note", "s", "x")])

    def test_whoever_is_held_is_broken_outermost_first(self):
        tasks = {"b": [("call", "s", "e", [("note", "x")])], "a": [("call", "s", "g", [])],
                 "c": [("call", "s", "e", [])], "d": [("call", "s", "e", [])],
                 "s": [("take", "e", [("take", "g", [("note", "y")])])], "z": [("abort", "s")]}
        run = begun(tasks, (), None, [("b", "call"), ("a", "call"), ("s", "take"), ("s", "take"), ("d", "call"),
                                      ("c", "call")])
        self.assertEqual(new_events(run, ("z", "abort")), [
            ("ended", "s"), ("broken", "b", "s", "e"), ("broken", "a", "s", "g"), ("broken", "d", "s", "e"),
            ("broken", "c", "s", "e"), ("ended", "a"), ("ended", "c"), ("ended", "d"), ("ended", "z")])

    def test_abort_of_oneself_and_of_ones_master(self):
        run = begun({"a": [("abort", "a"), ("note", "x")]}, (), None, [("a", "abort")])
        self.assertEqual([run.place("a"), run.events()], ["ended", [("ended", "a")]])
        run = begun({"a": nest({"c": [("abort", "a"), ("note", "x")]}, [("note", "y")])}, (), None,
                    [("a", "begin"), ("c", "abort")])
        self.assertEqual([run.events(), run.let()], [[("ended", "a"), ("ended", "c")], [("main", "closes")]])

    def test_nothing_if_not_there_or_ended(self):
        run = begun({"a": [], "z": [("abort", "a"), ("note", "x")]})
        self.assertEqual([new_events(run, ("z", "abort")), run.more([("z", "abort")]).place("z")], [[], (1,)])
        tasks = {"a": nest({"c": [("note", "x")]}), "z": [("abort", "a")]}
        run = begun(tasks, (), None, [("z", "abort")])
        self.assertEqual([run.place("a"), run.place("c")], ["ended", "absent"])
        self.assertEqual(run.let(), [("main", "closes")])

    def test_abort_of_one_in_a_things_row(self):
        wait = [("wait", "t", "have")]
        run = begun({"x": wait, "y": wait, "z": [("abort", "y")]}, (), {"t": LOCK},
                    [("x", "wait"), ("y", "wait"), ("z", "abort")])
        self.assertEqual([run.row("t", "have"), run.place("y")], [[], "ended"])


class EndsTest(unittest.TestCase):

    def end_offer(self, entry="e", other=("end",)):
        return ("offer", [(None, entry, [])], other)

    def test_ends(self):
        tasks = {"a": [("again", [self.end_offer()])], "b": [self.end_offer("g"), ("note", "x")], "c": []}
        run = begun(tasks)
        self.assertEqual(run.let(), [("main", "ends")])
        self.assertEqual(new_events(run, ("main", "ends")), [("ended", "a"), ("ended", "b")])
        run = run.more([("main", "ends")])
        self.assertEqual([run.how("main"), run.let()], ["closing", [("main", "closes")]])

    def test_who_is_not_ready_bars(self):
        offer = self.end_offer()
        for body in ([("note", "x")], [self.end_offer("g", None)], [("take", "g", [])],
                     nest({"c": []}) + [("note", "x")]):
            run = begun({"a": [offer], "b": body})
            self.assertNotIn(("main", "ends"), run.let())

    def test_closing_a_nest_with_which_the_body_ends(self):
        offer = [self.end_offer()]
        inner = nest({"c": offer})
        for body in (inner, [("if", "f", [], inner)], [("pick", [inner, []])],
                     [("if", "f", [], [("if", "f", [], inner)])], [("offer", [(None, "k", [])], ("else", inner))]):
            run = begun({"b": body})
            while ("b", "begin") not in run.let():
                run = run.more(run.let()[:1])
            run = run.more([("b", "begin")])
            self.assertEqual(run.let(), [("main", "ends"), ("b", "ends")], body)
            run = run.more([("main", "ends")])
            self.assertEqual([run.place("c"), run.how("b"), run.let()], ["ended", "closing", [("b", "closes")]])
        for body in (inner + [("note", "x")], [("again", inner)], nest({"d": []}, inner),
                     [("again", inner + [("leave",)])], [("if", "f", [], inner), ("set", "f", True)]):
            run = begun({"b": body}, (), None, [("b", "begin")])
            while run.how("c") == "absent":
                run = run.more(run.let()[:1])
            self.assertNotIn(("main", "ends"), run.let(), body)

    def test_a_broken_calls_body_may_end_with_a_nest(self):
        tasks = {"b": [("call", "s", "k", nest({"c": [self.end_offer()]}))], "s": [("pick", [[], [("take", "k", [])]])]}
        run = begun(tasks, (), None, [("s", "pick", 0), ("b", "call"), ("b", "begin")])
        self.assertEqual(run.let(), [("main", "ends"), ("b", "ends")])

    def test_not_if_none_is_at_such_an_offer(self):
        run = begun({"a": []})
        self.assertEqual(run.let(), [("main", "closes")])

    def test_in_a_nests_body_at_an_offer(self):
        tasks = {"a": nest({"c": nest({"d": []})}, [self.end_offer()])}
        run = begun(tasks, (), None, [("a", "begin"), ("c", "begin")])
        self.assertEqual(run.let(), [("main", "ends"), ("c", "closes")])
        run = run.more([("main", "ends")])
        self.assertEqual([run.place("a"), run.how("c"), run.let()], ["ended", "closing", [("c", "closes")]])
        self.assertEqual(run.more([("c", "closes")]).let(), [("main", "closes")])


class RunTest(unittest.TestCase):

    def test_order_of_let(self):
        tasks = {"b": [("pick", [[], []])], "a": [("call", "s", "e", [])], "s": [("take", "e", [])]}
        run = Run(Program([("nest", tasks, [("note", "x")]), ]), [BEGIN, ("a", "call")])
        self.assertEqual(run.let(), [("main", "note"), ("b", "pick", 0), ("b", "pick", 1), ("s", "take")])

    def test_bad_steps(self):
        program = example_11()
        for steps in any_objects():
            if steps in ([], ()):
                continue
            with self.assertRaises(BadStep) as caught:
                Run(program, steps)
            self.assertEqual(caught.exception.index, 0)
        run = Run(program, [BEGIN])
        for step in any_objects() + [("a", "note"), ("b", "note"), ("a", "call", 0), ("zz", "call"), BEGIN]:
            with self.assertRaises(BadStep) as caught:
                run.more([("a", "call"), step])
            self.assertEqual(caught.exception.index, 1)
        self.assertEqual(run, Run(program, [BEGIN]))
        picking = Program([("pick", [[], []])])
        self.assertIsInstance(raised(Run, picking, [("main", "pick", True)]), BadStep)
        self.assertIsInstance(raised(Run, picking, [("main", "pick", 2)]), BadStep)
        self.assertIsInstance(raised(Run, picking, [("main", "pick")]), BadStep)

    def test_more_and_lists(self):
        program = example_11()
        one = Run(program=program, steps=(["main", "begin"], ("a", "call")))
        other = Run(program).more(steps=[BEGIN]).more((("a", "call"),))
        self.assertEqual(one, other)
        self.assertEqual(one.steps(), [BEGIN, ("a", "call")])
        self.assertEqual(one.program(), program)
        one.steps().clear()
        one.let().clear()
        one.events().append(1)
        one.row(entry="e", owner="b").clear()
        self.assertEqual([one.steps(), one.row("b", "e"), one.events()], [[BEGIN, ("a", "call")], ["a"], []])

    def test_asked_of_what_is_not_there(self):
        run = Run(Program(nest({"a": [("take", "e", [])]}), {"t": LOCK}))
        for thing in any_objects() + ["t"]:
            for work in (run.place, run.how, run.flags, run.held):
                if thing not in ("main", "a"):
                    error = raised(work, thing)
                    self.assertIsInstance(error, NoTask)
                    self.assertIs(error.task, thing)
            error = raised(run.row, thing, "e")
            if thing != "a":
                self.assertIsInstance(error, NoEntry)
                self.assertIs(error.owner, thing)
                self.assertEqual(error.entry, "e")
            error = raised(run.row, "a", thing)
            self.assertIsInstance(error, NoEntry)
            self.assertIs(error.entry, thing)
            if thing != "t":
                error = raised(run.value, thing)
                self.assertIsInstance(error, NoThing)
                self.assertIs(error.thing, thing)
        self.assertEqual([run.row("a", "e"), run.row("t", "have")], [[], []])

    def test_equal(self):
        program = Program(nest({"a": [("note", "x")], "b": [("note", "y")]}))
        one = Run(program, [BEGIN, ("a", "note"), ("b", "note")])
        self.assertEqual(one, Run(program, [BEGIN, ("b", "note"), ("a", "note")]))
        self.assertNotEqual(one, Run(program, [BEGIN, ("b", "note")]))
        self.assertNotEqual(Run(Program([("note", "x")])), Run(Program([("note", "y")])))
        waits = Program(nest({name: [("wait", "t", "have")] for name in "xyz"}), {"t": LOCK})
        steps = [BEGIN, ("x", "wait")]
        self.assertNotEqual(Run(waits, steps + [("y", "wait"), ("z", "wait")]),
                            Run(waits, steps + [("z", "wait"), ("y", "wait")]))
        flags = Program([("pick", [[("set", "f", True)], []]), ("note", "x")])
        self.assertNotEqual(Run(flags, [("main", "pick", 0)]), Run(flags, [("main", "pick", 1)]))
        for other in any_objects():
            self.assertFalse(one == other)

    def test_long_runs(self):
        program = Program([("again", [("use", "u", "put"), ("wait", "u", "get")])], {"u": CELL})
        run = Run(program, [("main", "use"), ("main", "wait")] * 100)
        self.assertEqual(len(run.steps()), 200)
        self.assertEqual(run, Run(program))
        self.assertEqual(len(run.events()), 100)


if __name__ == "__main__":
    unittest.main()
