"""What a house keeps: programs, runs and asks as anybody may pass them, and what each rests on."""

from meettasks.basics import is_integer, is_list, is_pair, is_path, is_word
from meettasks.errors import Lacks, NotOf
from meettasks.logforms import as_line
from meettasks.programs import Program
from meettasks.runs import Run

KINDS_KEPT = ("program", "run", "ask")
# How many things stand behind the word of an ask.
ASKS = {"values": 1, "left": 1, "holds": 3, "keepers": 4, "fits": 2, "quarrels": 2}


def as_kept_step(thing):
    """A step by its form, None for any object that is none."""
    if not is_list(thing) or not 2 <= len(thing) <= 3 or not is_word(thing[0]) or not is_word(thing[1]):
        return None
    if len(thing) == 3 and not (is_integer(thing[2]) and thing[2] >= 0):
        return None
    return tuple(thing)


def as_rows(thing, as_row):
    """A list of rows each of which is told by a function, None for any object that is none."""
    if not is_list(thing):
        return None
    found = [as_row(one) for one in thing]
    return None if None in found else tuple(found)


def as_word(thing):
    return thing if is_word(thing) else None


def as_kept_mark(thing):
    if not is_pair(thing) or not is_word(thing[0]) or not is_path(thing[1]):
        return None
    return (thing[0], tuple(thing[1])) if all([number >= 0 for number in thing[1]]) else None


def as_kept_sentence(thing):
    """A dict from words to tuples of words, ascending, None for any object that is none."""
    if not isinstance(thing, dict) or not all([is_word(name) for name in thing]):
        return None
    found = {name: as_rows(thing[name], as_word) for name in sorted(thing)}
    return None if None in [found[name] for name in found] else found


def as_run(thing):
    if not is_pair(thing) or not is_word(thing[0]):
        return None
    steps = as_rows(thing[1], as_kept_step)
    return None if steps is None else (thing[0], steps)


def as_ask(thing):
    if not is_list(thing) or not thing or not isinstance(thing[0], str) or thing[0] not in ASKS:
        return None
    if len(thing) != ASKS[thing[0]] + 1 or not is_word(thing[1]):
        return None
    rest = ask_rest(thing[0], thing[2:])
    return None if None in rest else (thing[0], thing[1]) + rest


def ask_rest(word, rest):
    """What stands behind the program's name, None in the place of what is no such thing."""
    if word in ("fits", "quarrels"):
        return (as_rows(rest[0], as_line),)
    if word in ("values", "left"):
        return ()
    marks = (as_rows(rest[2], as_kept_mark),) if word == "keepers" else ()
    return (as_kept_sentence(rest[0]), rest[1] if isinstance(rest[1], bool) else None) + marks


def as_kept(kind, thing):
    """What is kept of a thing of a kind, None for any object that is none."""
    if kind == "program":
        return thing if isinstance(thing, Program) else None
    return as_run(thing) if kind == "run" else as_ask(thing)


def told_thing(kind, thing):
    """What is kept, all that could be changed being new."""
    if kind != "ask":
        return thing
    return tuple([{name: part[name] for name in part} if isinstance(part, dict) else part for part in thing])


def program_name(kept, name):
    """The name of the program on which a run or an ask rests, None of a program."""
    kind, thing = kept[name]
    if kind == "program":
        return None
    return thing[0] if kind == "run" else thing[1]


def program_of(kept, name):
    """The program on which a run or an ask rests; Lacks, NotOf."""
    told = program_name(kept, name)
    if told not in kept:
        raise Lacks(told)
    kind, thing = kept[told]
    if kind != "program":
        raise NotOf(told)
    return thing


def kept_run(kept, name):
    return Run(program_of(kept, name), kept[name][1][1])


def check_kept(kept, name):
    """What is against a thing that is kept, all others being there: Lacks, NotOf, of a run BadStep."""
    kind, _ = kept[name]
    if kind == "run":
        kept_run(kept, name)
    elif kind == "ask":
        program_of(kept, name)
