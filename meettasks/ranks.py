"""Why no endless order of a kind stays in a field: rows of numbers that fall, and who has to go on."""

from meettasks.basics import is_integer, is_list, is_pair, is_path
from meettasks.bodies import deeds_along
from meettasks.fields import pieces
from meettasks.rings import inner_edges, missed_arm, starved_task


def helper_of(field, kind, piece):
    """Who has to go on in a piece of stands: a task, an arm, None (of "any"); () if nobody has to."""
    edges = inner_edges(field, piece)
    if kind == "any":
        return () if edges else None
    if not edges:
        return field.doers_at(piece[0])[0]
    task = starved_task(field, piece, edges)
    if task is not None or kind == "weak":
        return () if task is None else task
    arm = missed_arm(field, piece, edges)
    return () if arm is None else arm


def rows_in(field, kind):
    """The rows of helpers by stands, None if some endless order of the kind stays in the field."""
    if not all([field.edges_at(at) for at in field.members]):
        return None
    rows = {at: [] for at in field.members}
    lots = [field.members]
    while lots:
        lot = lots.pop(0)
        for number, piece in enumerate(pieces(lot, field.goes)):
            helper = helper_of(field, kind, piece)
            if helper == ():
                return None
            for at in piece:
                rows[at].append((number, helper))
            # Where an arm is shut somebody else has to go on, by numbers behind.
            if isinstance(helper, tuple):
                lots.append([at for at in piece if helper not in field.arms_at(at)])
    return rows


def helpers_in(field, kind):
    """The rows by first runs, ascending, or None."""
    rows = rows_in(field, kind)
    if rows is None:
        return None
    return {tuple(field.graph.first_order(at)): rows[at] for at in field.members}


def is_order_key(thing):
    """Whether a key is a tuple of steps as they are told: Python takes True and 1 for one key."""
    if not isinstance(thing, tuple):
        return False
    for step in thing:
        if not isinstance(step, tuple) or any([isinstance(part, bool) for part in step]):
            return False
    return True


def worths_by_stands(graph, members, thing):
    """What a dict from just the first runs to these stands tells of each; None for any object that is none."""
    if not isinstance(thing, dict) or len(thing) != len(members):
        return None
    stands = {tuple(graph.first_order(at)): at for at in members}
    if not all([is_order_key(key) and key in stands for key in thing]):
        return None
    return {stands[key]: thing[key] for key in thing}


def as_helper(thing):
    """A helper as it is told; () for any object that is none by its form."""
    if thing is None or isinstance(thing, str):
        return thing
    if not is_list(thing) or len(thing) != 3 or not isinstance(thing[0], str):
        return ()
    if not is_path(thing[1]) or not is_integer(thing[2]):
        return ()
    return thing[0], tuple(thing[1]), thing[2]


def all_arms(plan):
    """All arms of a program."""
    return [(task, path, number) for task in plan.names for path, deed in deeds_along(plan.source.body(task))
            if deed[0] == "offer" for number in range(len(deed[1]))]


def can_help(field, kind, at, helper, last):
    """Whether a helper may stand in the row of a stand, as its last one or ahead."""
    if kind == "any":
        return helper is None
    if isinstance(helper, str):
        return last and helper in field.doers_at(at)
    if kind == "weak" or not isinstance(helper, tuple) or helper not in all_arms(field.graph.plan):
        return False
    return (helper in field.arms_at(at)) == last


def as_row(field, kind, at, thing):
    """The row of a stand with helpers as they are told, None for any object that is none."""
    if not is_list(thing) or not thing or kind != "strong" and len(thing) != 1:
        return None
    row = []
    for place, pair in enumerate(thing):
        if not is_pair(pair) or not is_integer(pair[0]) or pair[0] < 0:
            return None
        helper = as_helper(pair[1])
        if not can_help(field, kind, at, helper, place == len(thing) - 1):
            return None
        row.append((pair[0], helper))
    return row


def is_step_of(field, at, step, helper):
    if isinstance(helper, tuple):
        return field.arm_of(at, step) == helper
    return helper is None or step[0] == helper


def leads_well(row, behind, owned):
    """Whether a step leads on well from one row to another one; owned are the numbers of helpers whose it is."""
    both = min(len(row), len(behind))
    unlike = [at for at in range(both) if row[at][0] != behind[at][0]]
    first = unlike[0] if unlike else both
    if unlike and behind[first][0] > row[first][0]:
        return False
    if any([row[at][1] != behind[at][1] for at in range(first)]):
        return False
    return all([unlike and first <= at or at >= len(behind) for at in owned])


def are_helpers_in(field, kind, thing):
    """Whether any object is a dict of helpers."""
    told = worths_by_stands(field.graph, field.members, thing)
    if told is None:
        return False
    rows = {}
    for at in field.members:
        rows[at] = as_row(field, kind, at, told[at])
        if rows[at] is None or not field.edges_at(at):
            return False
    for at in field.members:
        for edge in field.goes[at]:
            owned = [place for place, pair in enumerate(rows[at]) if is_step_of(field, at, edge.step, pair[1])]
            if not leads_well(rows[at], rows[edge.target], owned):
                return False
    return True
