"""What steps write and ask, which touch, and orders that are one but for exchanges."""

from meettasks.errors import BadOrder
from meettasks.plans import plan_of
from meettasks.traces import do_touch, least_row, marked_steps


def last_marked(program, order):
    marked = marked_steps(program, order)
    if not marked:
        raise BadOrder(0)
    return marked[-1]


def written(program, order):
    return plan_of(program).parts_in(last_marked(program, order).written)


def asked(program, order):
    last = last_marked(program, order)
    return plan_of(program).parts_in(last.asked & ~last.written)


def steps_by_mark(marked):
    return {one.mark: one.step for one in marked}


def first_unlike_mark(one, other):
    """The least mark at which two orders have unlike steps, or just one has any; None if there is none."""
    here = steps_by_mark(one)
    there = steps_by_mark(other)
    for mark in sorted(list(here) + [mark for mark in there if mark not in here]):
        if mark not in here or mark not in there or here[mark] != there[mark]:
            return mark
    return None


def turned_pairs(one, other):
    """All pairs of steps, the first one ahead in the one, that stand the other way about in the other."""
    places = {step.mark: at for at, step in enumerate(other)}
    return [(ahead, behind) for at, behind in enumerate(one) for ahead in one[:at]
            if places[ahead.mark] > places[behind.mark]]


def pair_of(one, other):
    mark = first_unlike_mark(one, other)
    if mark is not None:
        return mark, mark
    turned = [(ahead.mark, behind.mark) for ahead, behind in turned_pairs(one, other) if do_touch(ahead, behind)]
    return min(turned) if turned else None


def pair_against(program, one, other):
    first = marked_steps(program, one)
    return pair_of(first, marked_steps(program, other))


def are_one(program, one, other):
    return pair_against(program, one, other) is None


def exchanges(program, one, other):
    first = marked_steps(program, one)
    second = marked_steps(program, other)
    if pair_of(first, second) is not None:
        return None
    marks = [step.mark for step in first]
    found = []
    for at, step in enumerate(second):
        place = marks.index(step.mark)
        found.extend(list(reversed(range(at, place))))
        marks.insert(at, marks.pop(place))
    return found


def least_one(program, order):
    return least_row(marked_steps(program, order))
