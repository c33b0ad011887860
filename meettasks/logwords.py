"""Which kinds of events have to be logged to tell two programs apart."""

from meettasks.basics import first_bad_word, is_list, least_lots
from meettasks.errors import BadKinds
from meettasks.eventspots import KINDS, View, event_spots, pairs_until


def checked_kinds(words):
    if not is_list(words):
        raise BadKinds(0)
    wrong = first_bad_word(words, KINDS)
    if wrong is not None:
        raise BadKinds(wrong)
    return tuple(sorted(words))


def first_apart(one, other, kinds):
    """The first row of events of these kinds that just one of both has, or None."""
    views = [View(event_spots(one), kinds), View(event_spots(other), kinds)]
    _, row = pairs_until(views, lambda lots: 0 in lots)
    return row


def log_apart(one, other, words):
    return first_apart(one, other, checked_kinds(words))


def kinds_apart(one, other):
    return least_lots(KINDS, lambda lot: first_apart(one, other, lot) is not None)
