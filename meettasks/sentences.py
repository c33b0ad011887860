"""Sentences about the values of things: whether they hold at all stands, or where main has ended."""

from meettasks.basics import first_bad_word, is_list
from meettasks.doing import ENDED
from meettasks.errors import BadSentence, BadTruth
from meettasks.marking import checked_marks, walk_with


def checked_sentence(program, sentence):
    """The sentence by the numbers of things; BadSentence for the first key against it."""
    if not isinstance(sentence, dict):
        raise BadSentence(None)
    things = program.things()
    numbers = {name: at for at, name in enumerate(things)}
    found = {}
    for name in sentence:
        if not isinstance(name, str) or name not in things or not is_list(sentence[name]):
            raise BadSentence(name)
        if first_bad_word(sentence[name], things[name].worths()) is not None:
            raise BadSentence(name)
        found[numbers[name]] = list(sentence[name])
    return found


def checked_truth(thing):
    if not isinstance(thing, bool):
        raise BadTruth(thing)
    return thing


def is_ended(walk, at):
    return walk.graph.stands[at].places[0] == ENDED


def stands_asked(walk, at_end):
    """The stands that come, in the order of first rows; at the end those alone where main has ended."""
    return [at for at in walk.order if not at_end or is_ended(walk, at)]


def values_asked(program, marks, at_end):
    walk = walk_with(program, checked_marks(program, marks))
    return sorted({walk.graph.stands[at].levels for at in stands_asked(walk, at_end)})


def values_coming(program, marks=()):
    return values_asked(program, marks, False)


def values_left(program, marks=()):
    return values_asked(program, marks, True)


def does_hold(wanted, levels):
    return all([levels[thing] in wanted[thing] for thing in wanted])


def first_breach(program, wanted, at_end, marks):
    """As breach, of what was checked."""
    walk = walk_with(program, marks)
    for at in stands_asked(walk, at_end):
        if not does_hold(wanted, walk.graph.stands[at].levels):
            return walk.row_to(at)
    return None


def breach(program, sentence, at_end, marks=()):
    wanted = checked_sentence(program, sentence)
    checked_truth(at_end)
    return first_breach(program, wanted, at_end, checked_marks(program, marks))
