"""The rest of a task: the deeds that can still come by its text."""

from meettasks.bodies import bodies_in, deed_at


def deeds_ahead(body, path, closing):
    """Deeds that with all within them are the rest of a task with this body at a path."""
    for at in range(1, len(path), 2):
        deed = deed_at(body, path[:at])
        if deed[0] == "again":
            return [deed] + deeds_behind(body, path[:at])
    here = [] if closing else [deed_at(body, path)]
    return here + deeds_behind(body, path)


def deeds_behind(body, path):
    """The deeds behind a path, and behind those in which it lies, in their bodies."""
    found = []
    inner = body
    for at in range(0, len(path), 2):
        found.extend(inner[path[at] + 1:])
        if at + 1 < len(path):
            inner = bodies_in(inner[path[at]])[path[at + 1]]
    return found


def all_within(deeds):
    """These deeds and all within them, of nests also all deeds of their tasks."""
    found = []
    for deed in deeds:
        found.append(deed)
        for body in bodies_in(deed):
            found.extend(all_within(body))
        if deed[0] == "nest":
            for task in deed[1]:
                found.extend(all_within(deed[1][task]))
    return found


def rest_of(plan, stand, task):
    """All deeds of the rest of a task that is there."""
    spot = plan.spots[task][stand.places[task]]
    body = plan.source.body(plan.names[task])
    return all_within(deeds_ahead(body, spot.path, spot.kind == "closing"))
