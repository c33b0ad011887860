"""What runs are made of: steps done one behind another, perhaps with strikes from outside among them."""

from meettasks.basics import is_list
from meettasks.doing import ABSENT, ENDED, IN_ROW, MET
from meettasks.errors import BadStep, BadTasks, NoEntry, NoThing
from meettasks.plans import plan_of
from meettasks.programs import known_task
from meettasks.steps import as_step, do_step, do_strike, first_stand, steps_of


def checked_strikable(program, strikable):
    """The numbers of strikable tasks, ascending."""
    if not is_list(strikable):
        raise BadTasks(0)
    tasks = program.tasks()
    seen = set()
    for index, task in enumerate(strikable):
        if not isinstance(task, str) or task not in tasks or task == "main" or task in seen:
            raise BadTasks(index)
        seen.add(task)
    return tuple([at for at, task in enumerate(tasks) if task in seen])


def task_steps(plan, strikable, stand, struck, task):
    """The steps of a task, a strike of it behind them."""
    found = steps_of(plan, stand, task)
    if task in strikable and task not in struck and stand.places[task] >= 0:
        found.append((plan.names[task], "struck"))
    return found


def all_steps(plan, strikable, stand, struck):
    found = []
    for task in range(len(plan.names)):
        found.extend(task_steps(plan, strikable, stand, struck, task))
    return found


def doing_of(plan, stand, step):
    if step[1] == "struck":
        return do_strike(plan, stand, plan.number[step[0]])
    return do_step(plan, stand, step)


def struck_behind(plan, struck, step):
    """Who was struck behind a step, as ascending numbers."""
    return tuple(sorted(struck + (plan.number[step[0]],))) if step[1] == "struck" else struck


class Course:
    """Steps done from the beginning on, and the stand behind them; strikable and struck are numbers of tasks."""

    def __init__(self, program, strikable, stand, struck, steps, told):
        self.owner = program
        self.strikable = strikable
        self.stand = stand
        self.struck = struck
        self.done = steps
        self.told = told


def begun_course(program, strikable):
    doing = first_stand(plan_of(program))
    return Course(program, strikable, doing.made(), (), [], doing.told)


def longer_course(course, steps):
    """The course with further steps; BadStep with their own numbers."""
    if not is_list(steps):
        raise BadStep(0)
    plan = plan_of(course.owner)
    stand = course.stand
    struck = course.struck
    done = list(course.done)
    told = list(course.told)
    for index, thing in enumerate(steps):
        step = as_step(thing)
        if step is None or step not in course_steps(plan, course.strikable, stand, struck, step[0]):
            raise BadStep(index)
        doing = doing_of(plan, stand, step)
        stand = doing.made()
        struck = struck_behind(plan, struck, step)
        done.append(step)
        told.extend(doing.told)
    return Course(course.owner, course.strikable, stand, struck, done, told)


def course_steps(plan, strikable, stand, struck, name):
    if name not in plan.number:
        return []
    return task_steps(plan, strikable, stand, struck, plan.number[name])


def let_at(course):
    return all_steps(plan_of(course.owner), course.strikable, course.stand, course.struck)


def number_of(course, task):
    return plan_of(course.owner).number[known_task(course.owner, task)]


def place_in(plan, stand, task):
    place = stand.places[task]
    if place == ABSENT:
        return "absent"
    return "ended" if place == ENDED else plan.spots[task][place].path


def how_in(plan, stand, task):
    place = stand.places[task]
    if place < 0:
        return "absent" if place == ABSENT else "ended"
    if stand.modes[task] == MET:
        return "met"
    kind = plan.spots[task][place].kind
    if stand.modes[task] == IN_ROW:
        return "calling" if kind == "call" else "waiting"
    return "closing" if kind == "closing" else "ready"


def place_at(course, task):
    return place_in(plan_of(course.owner), course.stand, number_of(course, task))


def how_at(course, task):
    return how_in(plan_of(course.owner), course.stand, number_of(course, task))


def flags_at(course, task):
    return list(course.stand.truths[number_of(course, task)])


def held_at(course, task):
    tasks = course.owner.tasks()
    return [tasks[caller] if caller >= 0 else None for caller in course.stand.holds[number_of(course, task)]]


def row_at(course, owner, entry):
    plan = plan_of(course.owner)
    if not isinstance(owner, str) or not isinstance(entry, str) or (owner, entry) not in plan.row_number:
        raise NoEntry(owner, entry)
    return [plan.names[task] for task in course.stand.queues[plan.row_number[owner, entry]]]


def value_at(course, thing):
    plan = plan_of(course.owner)
    if not isinstance(thing, str) or thing not in plan.thing_number:
        raise NoThing(thing)
    return course.stand.levels[plan.thing_number[thing]]


def is_same_stand(one, other):
    return (one.owner == other.owner and one.strikable == other.strikable and one.struck == other.struck
            and one.stand.key == other.stand.key)
