"""Ends put to offers, and the fewest with which main ends."""

from meettasks.basics import is_list, is_pair, is_path, least_lots
from meettasks.bodies import deeds_along
from meettasks.errors import BadOffers
from meettasks.fields import checked_kind
from meettasks.programs import Program
from meettasks.unending import never_ends


def bare_offers(program):
    """The pairs (task, path) of the offers whose other is None, ascending."""
    return sorted([(task, path) for task in program.tasks() for path, deed in deeds_along(program.body(task))
                   if deed[0] == "offer" and deed[2] is None])


def checked_offers(program, offers):
    if not is_list(offers):
        raise BadOffers(0)
    known = bare_offers(program)
    found = []
    for index, thing in enumerate(offers):
        if not is_pair(thing) or not isinstance(thing[0], str) or not is_path(thing[1]):
            raise BadOffers(index)
        offer = (thing[0], tuple(thing[1]))
        if offer not in known or offer in found:
            raise BadOffers(index)
        found.append(offer)
    return found


def ended_body(body, task, path, offers):
    return [ended_deed(deed, task, path + (number,), offers) for number, deed in enumerate(body)]


def ended_deed(deed, task, path, offers):
    """The deed with ends at these offers in it."""
    kind = deed[0]
    if kind == "if":
        return kind, deed[1], ended_body(deed[2], task, path + (0,), offers), ended_body(
            deed[3], task, path + (1,), offers)
    if kind == "pick":
        return kind, [ended_body(body, task, path + (which,), offers) for which, body in enumerate(deed[1])]
    if kind == "nest":
        tasks = {one: ended_body(deed[1][one], one, (), offers) for one in deed[1]}
        return kind, tasks, ended_body(deed[2], task, path + (0,), offers)
    if kind == "offer":
        return ended_offer(deed, task, path, offers)
    if kind in ("again", "call", "take"):
        return deed[:-1] + (ended_body(deed[-1], task, path + (0,), offers),)
    return deed


def ended_offer(deed, task, path, offers):
    arms = [(arm[0], arm[1], ended_body(arm[2], task, path + (which,), offers)) for which, arm in enumerate(deed[1])]
    other = deed[2]
    if (task, path) in offers:
        other = ("end",)
    elif other is not None and other[0] == "else":
        other = ("else", ended_body(other[1], task, path + (len(arms),), offers))
    return "offer", arms, other


def with_ends(program, offers):
    found = checked_offers(program, offers)
    return Program(ended_body(program.body("main"), "main", (), found), program.things())


def fewest_ends(program, kind):
    checked_kind(kind)
    return least_lots(bare_offers(program), lambda lot: never_ends(with_ends(program, lot), kind) is None)
