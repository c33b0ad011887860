"""Which marks keep a sentence, and whom they bar from aborting."""

from meettasks.basics import least_lots
from meettasks.fields import reached
from meettasks.marking import checked_marks, walk_with
from meettasks.sentences import checked_sentence, checked_truth, first_breach


def keepers(program, sentence, at_end, marks):
    wanted = checked_sentence(program, sentence)
    checked_truth(at_end)
    known = checked_marks(program, marks)
    return least_lots(known, lambda lot: first_breach(program, wanted, at_end, list(lot)) is None)


def breakers(program, sentence, at_end, marks):
    wanted = checked_sentence(program, sentence)
    checked_truth(at_end)
    known = checked_marks(program, marks)
    return least_lots(known, lambda lot: first_breach(
        program, wanted, at_end, [mark for mark in known if mark not in lot]) is not None)


def aborts_at(walk, number):
    """By places of aborts of a task the stands at which it stands there, in the order of first rows."""
    plan = walk.graph.plan
    found = {}
    for at in walk.order:
        place = walk.graph.stands[at].places[number]
        if place >= 0 and plan.spots[number][place].kind == "abort":
            found.setdefault(place, []).append(at)
    return found


def barred_stands(walk, number):
    """The stands from which an abort at which the task stands never can be done behind steps of others."""
    name = walk.graph.plan.names[number]
    sources = {at: [] for at in walk.order}
    for at in walk.order:
        for edge in walk.goes[at]:
            if edge.step[0] != name:
                sources[edge.target].append(at)
    aborts = aborts_at(walk, number)
    found = []
    for place in aborts:
        free = {}
        reached([at for at in aborts[place] if (name, "abort") in [edge.step for edge in walk.goes[at]]], sources, free)
        found.extend([at for at in aborts[place] if at not in free])
    return found


def barred_abort(program, marks):
    walk = walk_with(program, checked_marks(program, marks))
    names = walk.graph.plan.names
    barred = [barred_stands(walk, number) for number in range(len(names))]
    for at in walk.order:
        for number, task in enumerate(names):
            if at in barred[number]:
                return walk.row_to(at), task
    return None
