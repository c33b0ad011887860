"""Which kinds of events have to be logged to tell two programs apart."""

from meettasks.basics import first_bad_word, is_list, least_lots
from meettasks.errors import BadKinds
from meettasks.eventspots import KINDS, View, event_spots


def checked_kinds(words):
    if not is_list(words):
        raise BadKinds(0)
    wrong = first_bad_word(words, KINDS)
    if wrong is not None:
        raise BadKinds(wrong)
    return tuple(sorted(words))


def first_apart(one, other, kinds):
    """The first row of events of these kinds that just one of both has, or None."""
    views = (View(event_spots(one), kinds), View(event_spots(other), kinds))
    start = (views[0].first_lot(), views[1].first_lot())
    rows = {start: []}
    coming = [start]
    at = 0
    while at < len(coming):
        lots = coming[at]
        at += 1
        if 0 in lots:
            return rows[lots]
        goes = [view.leads(lots[number]) for number, view in enumerate(views)]
        for event in sorted({**goes[0], **goes[1]}):
            target = (goes[0].get(event, 0), goes[1].get(event, 0))
            if target not in rows:
                rows[target] = rows[lots] + [event]
                coming.append(target)
    return None


def log_apart(one, other, words):
    return first_apart(one, other, checked_kinds(words))


def kinds_apart(one, other):
    return least_lots(KINDS, lambda lot: first_apart(one, other, lot) is not None)
