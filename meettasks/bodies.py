"""Bodies as anybody may pass them: what is a deed, and what stands in it."""

from meettasks.basics import is_list, is_pair, is_path, is_word

WORDED = ("note", "abort")
SILENT = ("set", "if", "again", "leave")


def is_arm(thing):
    return (is_list(thing) and len(thing) == 3 and (thing[0] is None or is_word(thing[0]))
            and is_word(thing[1]) and is_list(thing[2]))


def is_other(thing):
    if thing is None:
        return True
    if not is_list(thing) or not thing or not isinstance(thing[0], str):
        return False
    if thing[0] == "else":
        return is_pair(thing) and is_list(thing[1])
    return thing[0] == "end" and len(thing) == 1


def is_nest(rest):
    tasks = rest[0]
    if not isinstance(tasks, dict) or not tasks or not is_list(rest[1]):
        return False
    return all([is_word(task) and is_list(tasks[task]) for task in tasks])


def is_offer(rest):
    return is_list(rest[0]) and len(rest[0]) > 0 and all([is_arm(arm) for arm in rest[0]]) and is_other(rest[1])


def is_choice(rest):
    return is_list(rest[0]) and len(rest[0]) > 1 and all([is_list(body) for body in rest[0]])


def has_form(kind, rest):
    """Whether what stands behind the kind is right, by how many there are and by each."""
    if len(rest) == 0:
        return kind == "leave"
    if len(rest) == 1:
        if kind in WORDED:
            return is_word(rest[0])
        return kind == "again" and is_list(rest[0]) or kind == "pick" and is_choice(rest)
    if len(rest) == 2:
        if kind == "set":
            return is_word(rest[0]) and isinstance(rest[1], bool)
        if kind in ("use", "wait"):
            return is_word(rest[0]) and is_word(rest[1])
        if kind == "take":
            return is_word(rest[0]) and is_list(rest[1])
        return kind == "nest" and is_nest(rest) or kind == "offer" and is_offer(rest)
    if len(rest) > 3 or not is_word(rest[0]) or not is_list(rest[2]):
        return False
    return kind == "if" and is_list(rest[1]) or kind == "call" and is_word(rest[1])


def is_deed(thing):
    """Whether it is a deed, whatever is in its bodies."""
    if not is_list(thing) or not thing or not isinstance(thing[0], str):
        return False
    return has_form(thing[0], thing[1:])


def bodies_in(deed):
    """The bodies that paths lead through, by their numbers; of a nest its body alone."""
    kind = deed[0]
    if kind == "if":
        return [deed[2], deed[3]]
    if kind == "pick":
        return list(deed[1])
    if kind == "offer":
        arms = [arm[2] for arm in deed[1]]
        return arms + [deed[2][1]] if deed[2] is not None and deed[2][0] == "else" else arms
    if kind in ("call", "take", "again", "nest"):
        return [deed[-1]]
    return []


def deeds_along(body):
    """All pairs (path, thing) along a body, as paths compare; of what is no deed nothing that is in it."""
    found = []
    for number, deed in enumerate(body):
        found.append(((number,), deed))
        if is_deed(deed):
            for which, inner in enumerate(bodies_in(deed)):
                found.extend([((number, which) + path, thing) for path, thing in deeds_along(inner)])
    return found


def entries_in(body):
    """The entries that a task with this body takes or offers, ascending, its nests' tasks aside."""
    found = set()
    for _, deed in deeds_along(body):
        if is_deed(deed):
            if deed[0] == "take":
                found.add(deed[1])
            elif deed[0] == "offer":
                for arm in deed[1]:
                    found.add(arm[1])
    return sorted(found)


def silent_ways(body):
    """Whether some way through it without a step comes to its end, and whether one leaves the "again" around."""
    leaves = False
    for deed in body:
        ends, left = silent_deed(deed)
        leaves = leaves or left
        if not ends:
            return False, leaves
    return True, leaves


def silent_deed(deed):
    if not is_deed(deed) or deed[0] not in SILENT:
        return False, False
    if deed[0] == "set":
        return True, False
    if deed[0] == "leave":
        return False, True
    if deed[0] == "again":
        _, left = silent_ways(deed[1])
        return left, False
    ways = [silent_ways(inner) for inner in bodies_in(deed)]
    return any([way[0] for way in ways]), any([way[1] for way in ways])


def copied(body):
    """A body with tuples throughout; the tasks of nests ascending, in a dict of its own."""
    return tuple([copied_deed(deed) for deed in body])


def copied_arm(arm):
    return arm[0], arm[1], copied(arm[2])


def copied_other(other):
    if other is None:
        return None
    return ("else", copied(other[1])) if other[0] == "else" else ("end",)


def copied_deed(deed):
    kind = deed[0]
    if kind == "nest":
        return "nest", {task: copied(deed[1][task]) for task in sorted(deed[1])}, copied(deed[2])
    if kind == "offer":
        return "offer", tuple([copied_arm(arm) for arm in deed[1]]), copied_other(deed[2])
    if kind == "pick":
        return "pick", tuple([copied(body) for body in deed[1]])
    return tuple([copied(part) if is_list(part) else part for part in deed])


def with_bodies(body, bodies):
    """A body in the nests of which the tasks that are told have other bodies."""
    return tuple([deed_with_bodies(deed, bodies) for deed in body])


def deed_with_bodies(deed, bodies):
    kind = deed[0]
    if kind == "nest":
        tasks = {task: bodies[task] if task in bodies else with_bodies(deed[1][task], bodies) for task in deed[1]}
        return kind, tasks, with_bodies(deed[2], bodies)
    if kind == "offer":
        arms = tuple([(arm[0], arm[1], with_bodies(arm[2], bodies)) for arm in deed[1]])
        has_body = deed[2] is not None and deed[2][0] == "else"
        return kind, arms, ("else", with_bodies(deed[2][1], bodies)) if has_body else deed[2]
    if kind == "pick":
        return kind, tuple([with_bodies(inner, bodies) for inner in deed[1]])
    return tuple([with_bodies(part, bodies) if is_list(part) else part for part in deed])


def deed_at(body, path):
    """The deed that a path leads to, None for any object that leads to none."""
    if not is_path(path) or len(path) % 2 == 0:
        return None
    if not 0 <= path[0] < len(body):
        return None
    deed = body[path[0]]
    for at in range(1, len(path), 2):
        inner = bodies_in(deed)
        if not 0 <= path[at] < len(inner) or not 0 <= path[at + 1] < len(inner[path[at]]):
            return None
        deed = inner[path[at]][path[at + 1]]
    return deed
