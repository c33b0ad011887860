"""Orders as rows of marked steps, each with what it writes and asks."""

from meettasks.basics import is_list
from meettasks.courses import course_steps, doing_of
from meettasks.errors import BadOrder
from meettasks.plans import plan_of
from meettasks.steps import as_step, first_stand


class Marked:
    """A step in an order; its mark is the task and how many steps this did ahead."""

    def __init__(self, step, mark, written, asked):
        self.step = step
        self.mark = mark
        self.written = written
        self.asked = asked


def do_touch(one, other):
    """Whether one of two steps (or edges) writes what the other one writes or asks."""
    return one.written & (other.written | other.asked) != 0 or one.asked & other.written != 0


def marked_steps(program, order):
    """The marked steps of an order; BadOrder for the first that cannot be done."""
    if not is_list(order):
        raise BadOrder(0)
    plan = plan_of(program)
    stand = first_stand(plan).made()
    found = []
    many = {}
    for index, thing in enumerate(order):
        step = as_step(thing)
        if step is None or step not in course_steps(plan, (), stand, (), step[0]):
            raise BadOrder(index)
        doing = doing_of(plan, stand, step)
        stand = doing.made()
        ahead = many.get(step[0], 0)
        many[step[0]] = ahead + 1
        found.append(Marked(step, (step[0], ahead), doing.written, doing.asked))
    return found


def least_row(marked):
    """The steps of the least order that is one with these: always the least step that is free to come next."""
    behind = [[at for at in range(first + 1, len(marked)) if do_touch(marked[first], marked[at])]
              for first in range(len(marked))]
    barring = [0] * len(marked)
    for row in behind:
        for at in row:
            barring[at] += 1
    free = [at for at in range(len(marked)) if barring[at] == 0]
    steps = []
    while free:
        best = min(free, key=lambda at: marked[at].step)
        free.remove(best)
        steps.append(marked[best].step)
        for at in behind[best]:
            barring[at] -= 1
            if barring[at] == 0:
                free.append(at)
    return steps
