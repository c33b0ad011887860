"""Why a task cannot wait for ever: who has to go on, at each stand at which it waits."""

from meettasks.lassos import field_of
from meettasks.ranks import are_helpers_in, helpers_in


def helpers(program, task, kind):
    return helpers_in(field_of(program, task, kind), kind)


def are_helpers(program, task, kind, thing):
    return are_helpers_in(field_of(program, task, kind), kind, thing)
