"""The interface: names, files, parameters; parameters by place and by name (point 3)."""

import importlib
import inspect
import unittest

INTERFACE = {
    "things": "Thing(values, start, deeds, entries) with worths, start, deeds, entries",
    "programs": "Program(body, things=None) with tasks, master(task), body(task), things, deed(task, path)",
    "runs": "Run(program, steps=()) with let, more(steps), steps, program, place(task), how(task), flags(task), "
            "held(task), row(owner, entry), value(thing), events",
    "standing": "first_orders(program); stand_of(program, order); steps_at(program, number); "
                "first_at(program, spots); order_without(program, one, other)",
    "touching": "written(program, order); asked(program, order); are_one(program, one, other); "
                "exchanges(program, one, other); least_one(program, order); pair_against(program, one, other)",
    "wholes": "how_many(program); one_of_each(program); unlike_ends(program)",
    "unfolding": "unfolded(program); is_configuration(program, thing); stand_by(program, events); "
                 "events_for(program, number)",
    "stretches": "crossing(program, stretch)",
    "waits": "stuck(run); first_stuck(program, task); first_standstill(program)",
    "knots": "greatest_knot(run); is_knot(run, thing)",
    "lassos": "waits_for_ever(program, task, kind); is_wait(program, task, kind, thing)",
    "helping": "helpers(program, task, kind); are_helpers(program, task, kind, thing)",
    "passing": "most_passed(program, task); passing_run(program, task, many); are_bounds(program, task, thing)",
    "endings": "bars(run, task); ending(run, task)",
    "unending": "never_ends(program, kind); is_unending(program, kind, thing); end_helpers(program, kind); "
                "are_end_helpers(program, kind, thing); left_over(program)",
    "strikes": "StruckRun(program, strikable, steps=()) with let, more(steps), steps, program, place(task), "
               "how(task), flags(task), held(task), row(owner, entry), value(thing), events; "
               "struck_values(program, strikable, thing); value_bars(program, strikable, thing, values)",
    "harming": "harms(program, strikable, task, kind); harmed(program, strikable, task, kind, lot); "
               "is_harm(program, strikable, task, kind, lot, thing)",
    "moreends": "with_ends(program, offers); fewest_ends(program, kind)",
    "sentences": "values_coming(program, marks=()); values_left(program, marks=()); "
                 "breach(program, sentence, at_end, marks=())",
    "marks": "keepers(program, sentence, at_end, marks); breakers(program, sentence, at_end, marks); "
             "barred_abort(program, marks)",
    "uses": "first_open(thing, entry, names); shut_ring(thing, entry, names); "
            "is_shut_ring(thing, entry, names, pair); helpers_of(thing, entry); idle_lots(thing, entry)",
    "callrows": "gone_on(thing, callers, calls); calls_that_part(one, other, callers); like_values(thing, callers); "
                "least_thing(thing, callers); with_least_things(program)",
    "servers": "Servers(program) with program, names, first",
    "crowds": "Crowd(servers, body) with servers, body, spots, knowns",
    "crowdruns": "CrowdRun(crowd, many, steps=()) with let, more(steps), steps, known, counts",
    "leaststands": "least_many(crowd, wanted); run_to(crowd, wanted); least_stands(crowd, wanted); "
                   "shows_never(crowd, wanted, thing)",
    "allcounts": "known_numbers(crowd); spot_numbers(crowd); enough(crowd); most_in(crowd, spot, most)",
    "outside": "entries_of(servers); can_be(servers, row); can_be_left(servers, row, lot); left_lots(servers, row)",
    "callers": "Caller(states) with states; left_row(servers, caller); is_safe(servers, caller)",
    "likecallers": "may_part(one, other); must_part(one, other); caller_apart(one, other); "
                   "can_stand_for(newer, elder); worse_pair(newer, elder)",
    "leastmachines": "least_machine(servers); lots_along(machine, row)",
    "greatest": "greatest_caller(servers); goes_along(servers, caller)",
    "jobs": "Jobs(jobs) with jobs, cost(job), ceiling(thing); done(jobs, comings); answers(jobs, comings); "
            "breakdown(jobs, comings, job, number)",
    "longest": "most_barred(jobs, job); lock_against(jobs, job); longest_answer(jobs, job); "
               "worst_comings(jobs, job); least_distance(jobs, job, ends)",
    "ceilings": "tangle(jobs, thing, ceiling); least_ceiling(jobs, thing)",
    "timed": "Timed(tasks) with tasks; is_course(timed, thing)",
    "lawful": "is_lawful(timed, thing); bounds_of(timed, order); course_in(timed, order); ring_in(timed, order); "
              "way_in(timed, order, one, other)",
    "distances": "distances(timed, one, other); course_at(timed, one, other, number)",
    "limits": "least_limit(timed, task, path); idle_limits(timed)",
    "codes": "Code(rows, things=None) with rows(task), tasks, things; cut_code(code, cuts)",
    "smallruns": "small_orders(code); small_steps(code, number); small_events(code, order)",
    "compiling": "compiled(program)",
    "papers": "apart_by(one, other); paper(one, other); is_paper(one, other, thing)",
    "cuts": "cut_shows(code, cuts); unseen_cuts(code)",
    "shorter": "rows_coming(code); short_code(code); needed_flags(code, task, number)",
    "slots": "are_together(program, one, other); slots(program); most_together(program)",
    "logs": "is_log(thing); fitting_run(program, log); first_misfit(program, log); stands_behind(program, log)",
    "guesses": "happened(program, log, number, event); happened_runs(program, log, number, event); "
               "sure_lines(program, log, number); possible_lines(program, log, number); "
               "places_behind(program, log, task); values_behind(program, log, thing)",
    "quarrels": "quarrels(program, log); doubted(program, log)",
    "apartlogs": "fitting_order(program, apart); ahead_of(program, apart, one, other)",
    "logwords": "log_apart(one, other, words); kinds_apart(one, other)",
    "programtexts": "write_program(program); read_program(text)",
    "sketches": "Sketch(body, things=None, unknown=()) with program, filled(bodies); verdicts(sketch, ask)",
    "slices": "loose_tasks(program, sentence); sliced(program, sentence)",
    "houses": "House() with put(name, kind, thing), drop(name), names, held(name), told(name), run(name), made, undo, "
              "again, copy, trial(work)",
    "housetexts": "write_house(house); read_house(text)",
    "fates": "all_fates(timed); course_with(timed, fates); come_to(timed, task, path); is_late(timed, task, path)",
}


def told_parameters(thing):
    found = []
    for parameter in inspect.signature(thing).parameters.values():
        if parameter.name != "self":
            default = "" if parameter.default is inspect.Parameter.empty else "=" + repr(parameter.default)
            found.append(parameter.name + default)
    return "(" + ", ".join(found) + ")" if found else ""


class InterfaceTest(unittest.TestCase):

    def test_all_is_defined_where_it_is_listed(self):
        for name, listed in INTERFACE.items():
            module = importlib.import_module("meettasks." + name)
            for item in listed.split("; "):
                head, _, methods = item.partition(" with ")
                thing = getattr(module, head.split("(")[0])
                self.assertEqual(thing.__module__, "meettasks." + name)
                self.assertEqual(head, thing.__name__ + (told_parameters(thing) or "()"))
                if methods:
                    self.check_class(thing, methods)

    def check_class(self, thing, methods):
        self.assertIn("__eq__", vars(thing))
        self.assertEqual("__len__" in vars(thing), thing.__name__ == "House")
        depth, word, words = 0, "", []
        for sign in methods + ",":
            depth += (sign == "(") - (sign == ")")
            if sign == "," and depth == 0:
                words.append(word.strip())
                word = ""
            else:
                word += sign
        for method in words:
            own = vars(thing)[method.split("(")[0]]
            self.assertEqual(method, own.__name__ + told_parameters(own))


if __name__ == "__main__":
    unittest.main()
