"""Tasks on which a sentence cannot hang, and programs in which these do nothing."""

from meettasks.bodies import deeds_along, with_bodies
from meettasks.programs import Program
from meettasks.sentences import checked_sentence

BINDING = ("call", "take", "offer", "wait", "abort", "again")


def all_deeds(program, task):
    """The deeds of a task's body, its nests' tasks aside."""
    return [deed for _, deed in deeds_along(program.body(task))]


def begun_with(program, task):
    """A task and all that begin by it, at any depth."""
    found = [task]
    for one in program.tasks():
        master = program.master(one)
        if master is not None and master[0] in found:
            found.append(one)
    return found


def is_free(deed, hanging):
    """Whether it is a deed that ends by itself and uses none of some things."""
    return deed[0] not in BINDING and not (deed[0] == "use" and deed[1] in hanging)


def loose_tasks(program, sentence):
    checked_sentence(program, sentence)
    deeds = {task: all_deeds(program, task) for task in program.tasks()}
    every = [deed for task in deeds for deed in deeds[task]]
    named = [deed[1] for deed in every if deed[0] in ("call", "abort")]
    hanging = list(sentence) + [deed[1] for deed in every if deed[0] == "wait"]
    found = []
    for task in deeds:
        lot = begun_with(program, task)
        is_alone = task != "main" and not any([one in named for one in lot])
        if is_alone and all([is_free(deed, hanging) for one in lot for deed in deeds[one]]):
            found.append(task)
    return sorted(found)


def sliced(program, sentence):
    empty = {task: () for task in loose_tasks(program, sentence)}
    return Program(with_bodies(program.body("main"), empty), program.things())
