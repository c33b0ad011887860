"""Which tasks can be there at once by the text, and as few slots as can be for them."""

from meettasks.bodies import deeds_along
from meettasks.programs import known_task


def masters_along(program, task):
    """The pairs (task, path) of the nests by which a task, and those that began it, begin."""
    found = []
    place = program.master(task)
    while place is not None:
        found.append(place)
        place = program.master(place[0])
    return found


def are_parted(one, other):
    """Whether two nests, as pairs (task, path), are of one task, and neither stands in the body of the other."""
    if one[0] != other[0]:
        return False
    least = min(len(one[1]), len(other[1]))
    return one[1][:least] != other[1][:least]


def are_together(program, one, other):
    ahead = masters_along(program, known_task(program, one))
    others = masters_along(program, known_task(program, other))
    return not any([are_parted(nest, more) for nest in ahead for more in others])


class Nesting:
    """The nests of a program by pairs (task, path), and how many slots each needs."""

    def __init__(self, program):
        self.tasks = {}
        self.inner = {}
        self.outer = {task: [] for task in program.tasks()}
        for task in program.tasks():
            for path, deed in deeds_along(program.body(task)):
                if deed[0] == "nest":
                    self.put_nest(task, path, list(deed[1]))
        self.many = {}
        for task in reversed(program.tasks()):
            self.count_task(task)

    def put_nest(self, task, path, tasks):
        """Puts a nest below the innermost one of the same task around it, if there is one."""
        self.tasks[task, path] = tasks
        self.inner[task, path] = []
        around = [length for length in range(len(path)) if (task, path[:length]) in self.tasks]
        if around:
            self.inner[task, path[:around[-1]]].append((task, path))
        else:
            self.outer[task].append((task, path))

    def count_task(self, task):
        """Counts what a task needs, all that it begins having been counted."""
        for nest in reversed([one for one in self.tasks if one[0] == task]):
            needed = [self.many[one] for one in self.tasks[nest]]
            self.many[nest] = sum(needed) + max([self.many[one] for one in self.inner[nest]], default=0)
        self.many[task] = 1 + max([self.many[nest] for nest in self.outer[task]], default=0)

    def greatest(self, nests):
        """The first that needs most, in a list; an empty one of no nests."""
        most = max([self.many[nest] for nest in nests], default=0)
        return [nest for nest in nests if self.many[nest] == most][:1]


def slots(program):
    nesting = Nesting(program)
    found = {"main": 0}
    coming = [(nest, 1) for nest in nesting.outer["main"]]
    while coming:
        nest, low = coming.pop()
        for task in nesting.tasks[nest]:
            found[task] = low
            coming.extend([(one, low + 1) for one in nesting.outer[task]])
            low += nesting.many[task]
        coming.extend([(one, low) for one in nesting.inner[nest]])
    return {task: found[task] for task in program.tasks()}


def most_together(program):
    nesting = Nesting(program)
    found = {"main": True}
    coming = nesting.greatest(nesting.outer["main"])
    while coming:
        nest = coming.pop()
        for task in nesting.tasks[nest]:
            found[task] = True
            coming.extend(nesting.greatest(nesting.outer[task]))
        coming.extend(nesting.greatest(nesting.inner[nest]))
    return [task for task in program.tasks() if task in found]
