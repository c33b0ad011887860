"""What a program's body must be: the tasks as they stand in the text, and the first deed against a rule."""

from meettasks.basics import is_list
from meettasks.bodies import bodies_in, entries_in, is_deed, silent_ways
from meettasks.errors import BadBody


class Scene:
    """A thing along a body, where it stands: which tasks are seen there, and whether a "leave" may stand there."""

    def __init__(self, path, deed, sees, loops):
        self.path = path
        self.what = deed
        self.sees = sees
        self.loops = loops
        self.good = is_deed(deed)

    def is_nest(self):
        return self.good and self.what[0] == "nest"


class Begun:
    """A task as it stands in the text, by whom it is begun and where."""

    def __init__(self, task, body, sees, by, path):
        self.task = task
        self.text = body
        self.by = by
        self.path = path
        self.scenes = scenes_along(body, (), sees, False)
        self.doubles = {}


def may_leave(deed, which, loops):
    """Whether a "leave" may stand in that body of a deed that stands where it may, or may not."""
    if deed[0] == "again":
        return True
    if deed[0] == "offer":
        return which == len(deed[1]) and loops
    return loops and deed[0] not in ("take", "nest")


def scenes_along(body, path, sees, loops):
    found = []
    for number, deed in enumerate(body):
        scene = Scene(path + (number,), deed, sees, loops)
        found.append(scene)
        if scene.good:
            inner_sees = {**sees, **deed[1]} if scene.is_nest() else sees
            for which, inner in enumerate(bodies_in(deed)):
                found.extend(scenes_along(inner, path + (number, which), inner_sees, may_leave(deed, which, loops)))
    return found


def add_begun(found, begun):
    """Adds a task and all that it begins, in the order of the text."""
    found.append(begun)
    for scene in begun.scenes:
        if scene.is_nest():
            tasks = scene.what[1]
            sees = {**scene.sees, **tasks}
            for task in sorted(tasks):
                add_begun(found, Begun(task, tasks[task], sees, begun, scene.path))


def doubles_of(begun, met, things):
    """The paths of its nests that begin a word that was met before; what they begin is met from now on."""
    found = {}
    for scene in begun.scenes:
        if scene.is_nest():
            if any([task in met or task in things for task in scene.what[1]]):
                found[scene.path] = True
            met.update(scene.what[1])
    return found


def begun_tasks(body, things):
    """All tasks in the order of the text."""
    found = []
    add_begun(found, Begun("main", body, {}, None, ()))
    met = {"main": True}
    for begun in found:
        begun.doubles = doubles_of(begun, met, things)
    return found


def has_use(things, name, deed):
    return name in things and deed in things[name].deeds()


def has_wait(things, name, entry):
    return name in things and entry in things[name].entries()


def is_wrong(begun, scene, things):
    deed = scene.what
    if not scene.good:
        return True
    kind = deed[0]
    if kind == "abort":
        return deed[1] not in scene.sees
    if kind == "call":
        return deed[1] not in scene.sees or deed[2] not in entries_in(scene.sees[deed[1]])
    if kind == "use":
        return not has_use(things, deed[1], deed[2])
    if kind == "wait":
        return not has_wait(things, deed[1], deed[2])
    if kind == "leave":
        return not scene.loops
    if kind == "nest":
        return scene.path in begun.doubles
    if kind == "again":
        ends, _ = silent_ways(deed[1])
        return ends
    return False


def checked_tasks(body, things):
    """All tasks in the order of the text; BadBody for the first deed against a rule."""
    if not is_list(body):
        raise BadBody("main", ())
    found = begun_tasks(body, things)
    for begun in found:
        for scene in begun.scenes:
            if is_wrong(begun, scene, things):
                raise BadBody(begun.task, scene.path)
    return found
