"""Which steps can be done at a stand, and what each does."""

from meettasks.basics import is_integer, is_list
from meettasks.doing import ABSENT, ENDED, READY, Doing, Stand

PLAIN_STEPS = {"note": "note", "nest": "begin", "call": "call", "use": "use", "wait": "wait", "abort": "abort",
               "row": "row"}


def arms_now(stand, task, spot):
    """The numbers of an offer's arms whose flag is None or True."""
    arms, _ = spot.what
    return [at for at, arm in enumerate(arms) if arm[0] is None or arm[0] in stand.truths[task]]


def is_at_end_offer(plan, stand, task):
    if stand.places[task] < 0:
        return False
    spot = plan.spots[task][stand.places[task]]
    return spot.kind == "offer" and spot.what[1] == "end"


def is_ready_to_end(plan, stand, task):
    """Whether it has ended, is closing a nest with which its body ends, or offers its end; so is who is not there."""
    if stand.places[task] < 0:
        return True
    spot = plan.spots[task][stand.places[task]]
    if spot.kind == "close":
        return spot.what and len(stand.nests[task]) > 0
    return spot.kind == "closing" and spot.what.last or is_at_end_offer(plan, stand, task)


def nest_at(plan, stand, task):
    """The nest that a task begins or closes where it is, None at a "close" of code without one."""
    spot = plan.spots[task][stand.places[task]]
    if spot.kind != "close":
        return spot.what
    return plan.spots[task][stand.nests[task][-1]].what if stand.nests[task] else None


def opening_steps(plan, stand, task):
    """Of code: a nest can begin if no task of it is there and has not ended."""
    nest = nest_at(plan, stand, task)
    return [] if any([stand.places[one] >= 0 for one in nest.begun]) else [(plan.names[task], "begin")]


def closing_steps(plan, stand, task):
    name = plan.names[task]
    nest = nest_at(plan, stand, task)
    if nest is None:
        return [(name, "closes")]
    if not any([stand.places[one] >= 0 for one in nest.below]):
        return [(name, "closes")]
    if all([is_ready_to_end(plan, stand, one) for one in nest.below]):
        if any([is_at_end_offer(plan, stand, one) for one in nest.below]):
            return [(name, "ends")]
    return []


def offer_steps(plan, stand, task, spot):
    arms, other = spot.what
    name = plan.names[task]
    found = [(name, "arm", at) for at in arms_now(stand, task, spot) if stand.queues[arms[at][1]]]
    return [(name, "else")] if not found and other == "else" else found


def steps_of(plan, stand, task):
    """The steps of one task that can be done at a stand, in their order."""
    if stand.places[task] < 0 or stand.modes[task] != READY:
        return []
    spot = plan.spots[task][stand.places[task]]
    name = plan.names[task]
    if spot.kind in PLAIN_STEPS:
        return [(name, PLAIN_STEPS[spot.kind])]
    if spot.kind == "pick":
        return [(name, "pick", at) for at in range(len(spot.goes))]
    if spot.kind == "offer":
        return offer_steps(plan, stand, task, spot)
    if spot.kind in ("closing", "close"):
        return closing_steps(plan, stand, task)
    if spot.kind == "opening":
        return opening_steps(plan, stand, task)
    return [(name, "take")] if stand.queues[spot.what[0]] else []


def first_stand(plan):
    """The doing of what comes before any step."""
    many = len(plan.names)
    places = (plan.firsts[0],) + (ABSENT,) * (many - 1)
    empty = ((),) * many
    nests = empty if plan.has_rows else ()
    nothing = Stand(places, (READY,) * many, empty, empty, ((),) * len(plan.rows), tuple(plan.starts), nests)
    doing = Doing(plan, nothing)
    doing.go(0, plan.firsts[0])
    doing.settle()
    return doing


def do_step(plan, stand, step):
    """The doing of a step that can be done at the stand."""
    doing = Doing(plan, stand)
    task = plan.number[step[0]]
    spot = doing.spot_of(task)
    doing.written |= plan.task_bits[task]
    kind = step[1]
    if kind in ("note", "pick"):
        do_alone(doing, task, spot, step)
    elif kind in ("call", "take", "arm", "else"):
        do_meeting(doing, task, spot, step)
    elif kind in ("use", "wait"):
        do_guarded(doing, task, spot)
    elif kind == "abort":
        do_abort(doing, task, spot)
    elif kind == "row":
        do_row(doing, task, spot)
    else:
        do_nest(doing, task, spot, kind)
    doing.settle()
    return doing


def do_strike(plan, stand, task):
    """The doing of what an abort of the task would do."""
    doing = Doing(plan, stand)
    doing.abort(task)
    doing.settle()
    return doing


def do_alone(doing, task, spot, step):
    if spot.kind == "note":
        doing.told.append(("note", doing.plan.names[task], spot.what))
    doing.go(task, spot.goes[step[2] if len(step) == 3 else 0])


def do_meeting(doing, task, spot, step):
    if spot.kind == "call":
        do_call(doing, task, spot)
    elif spot.kind == "take":
        doing.meet(task, spot.what[0], spot.what[1], spot.goes[0])
    elif step[1] == "arm":
        arm = spot.what[0][step[2]]
        doing.meet(task, arm[1], arm[2], spot.goes[step[2]])
    else:
        for at in arms_now(doing, task, spot):
            doing.asked |= doing.plan.row_bits[spot.what[0][at][1]]
        doing.go(task, spot.goes[-1])


def do_call(doing, task, spot):
    called, row, _ = spot.what
    doing.asked |= doing.plan.end_bits[called]
    if doing.places[called] == ENDED:
        doing.break_call(task)
    else:
        doing.put_in_row(task, row)


def do_guarded(doing, task, spot):
    thing = spot.what[0]
    doing.written |= doing.plan.value_bits[thing]
    for row in doing.plan.thing_rows[thing]:
        doing.asked |= doing.plan.row_bits[row]
    worth = doing.levels[thing]
    if spot.kind == "use":
        doing.levels[thing] = spot.what[1][worth]
        doing.go(task, spot.goes[0])
    elif worth in spot.what[1]:
        doing.pass_on(task, thing)
    else:
        doing.put_in_row(task, spot.what[2])
    doing.serve(thing)


def ask_ends(doing, tasks):
    for task in tasks:
        doing.asked |= doing.plan.end_bits[task]


def do_abort(doing, task, spot):
    named = spot.what
    ask_ends(doing, (named,) + doing.plan.below[named])
    doing.abort(named)
    if doing.places[task] >= 0:
        doing.go(task, spot.goes[0])


def do_row(doing, task, spot):
    """A silent row of code that is a step by itself."""
    doing.go_silently(task, spot.what)
    if doing.places[task] >= 0:
        doing.go(task, doing.places[task])


def do_nest(doing, task, spot, kind):
    nest = nest_at(doing.plan, doing, task)
    if kind == "begin":
        for one in nest.begun:
            doing.begin(one)
        doing.open_nest(task, doing.places[task])
        doing.go(task, spot.goes[0])
        return
    if nest is not None:
        ask_ends(doing, nest.below)
    if kind == "closes":
        doing.close_nest(task)
        doing.go(task, spot.goes[0])
        return
    for one in nest.below:
        doing.asked |= doing.plan.task_bits[one]
    doing.end_all([one for one in nest.below if is_at_end_offer(doing.plan, doing, one)])


def as_step(thing):
    """A step as it is told, or None for any object that is none by its form."""
    if not is_list(thing) or not 2 <= len(thing) <= 3:
        return None
    if not isinstance(thing[0], str) or not isinstance(thing[1], str):
        return None
    if len(thing) == 3 and not is_integer(thing[2]):
        return None
    return tuple(thing)
