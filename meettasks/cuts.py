"""What cuts of code show, and the greatest lots that show nothing."""

from meettasks.basics import all_lots, is_within
from meettasks.codes import cut_code, rows_by_task
from meettasks.papers import apart_by


def cut_shows(code, cuts):
    return apart_by(code, cut_code(code, cuts))


def unseen_cuts(code):
    rows = rows_by_task(code)
    cuts = sorted([(task, number) for task in rows for number, (_, on) in enumerate(rows[task]) if on])
    found = []
    # Some lot within one that shows nothing can show something: all are looked at, the greatest ones first.
    for lot in reversed(all_lots(cuts)):
        if not any([is_within(lot, more) for more in found]) and cut_shows(code, lot) is None:
            found.append(lot)
    return sorted(found)
