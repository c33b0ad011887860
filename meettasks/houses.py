"""Houses: programs, runs and asks by names, what was told of them, and the way back."""

from meettasks.basics import is_word
from meettasks.errors import BadKind, BadName, BadThing, Needed, NoName, Nothing, NotOf, TaskError
from meettasks.houseforms import KINDS_KEPT, as_kept, check_kept, kept_run, program_name, program_of, told_thing
from meettasks.logs import fitting_run
from meettasks.marks import keepers
from meettasks.quarrels import quarrels
from meettasks.sentences import breach, values_coming, values_left
from meettasks.slices import sliced


class Deed:
    """A deed of a house: what was put (None of a drop), and what was kept by the name ahead of it, or None."""

    def __init__(self, name, entry, ahead):
        self.name = name
        self.entry = entry
        self.ahead = ahead

    def told(self):
        if self.entry is None:
            return "drop", self.name
        kind, thing = self.entry
        return "put", self.name, kind, told_thing(kind, thing)


class Answer:
    """What an ask told, and of what."""

    def __init__(self, ask, subject, answer):
        self.ask = ask
        self.subject = subject
        self.answer = answer

    def is_of(self, ask, subject):
        return self.ask == ask and self.subject == subject


def with_entry(kept, name, entry):
    """What is kept with another thing by a name, without any by None; names ascending."""
    further = {one: kept[one] for one in kept if one != name}
    if entry is not None:
        further[name] = entry
    return {one: further[one] for one in sorted(further)}


def is_refused(kept, name):
    try:
        check_kept(kept, name)
    except TaskError:
        return True
    return False


def check_needed(kept, name):
    """Needed for the first run or ask that rests on what is put, and would be refused."""
    for by in kept:
        if program_name(kept, by) == name and is_refused(kept, by):
            raise Needed(name, by)


def subject_of(ask, program):
    """Of what it is asked: the program, or what of it the sentence can hang on."""
    return sliced(program, ask[2]) if ask[0] == "holds" else program


def answer_of(ask, subject):
    word = ask[0]
    if word == "values":
        return values_coming(subject)
    if word == "left":
        return values_left(subject)
    if word == "holds":
        return breach(subject, ask[2], ask[3]) is None
    if word == "keepers":
        return keepers(subject, ask[2], ask[3], ask[4])
    return fitting_run(subject, ask[2]) if word == "fits" else quarrels(subject, ask[2])


class House:
    """A house. All that it keeps is new with each change, never changed itself: so ways back are short."""

    def __init__(self):
        self._kept = {}
        self._done = ()
        self._undone = ()
        self._answers = {}
        self._made = ()

    def __eq__(self, other):
        return isinstance(other, House) and self._kept == other._kept

    def __len__(self):
        return len(self._done)

    def put(self, name, kind, thing):
        if not is_word(name):
            raise BadName(name)
        if not isinstance(kind, str) or kind not in KINDS_KEPT:
            raise BadKind(kind)
        entry = as_kept(kind, thing)
        if entry is None:
            raise BadThing(thing)
        further = with_entry(self._kept, name, (kind, entry))
        check_kept(further, name)
        check_needed(further, name)
        self.do(Deed(name, (kind, entry), self._kept.get(name)))

    def drop(self, name):
        self.check_name(name)
        for by in self._kept:
            if program_name(self._kept, by) == name:
                raise Needed(name, by)
        self.do(Deed(name, None, self._kept[name]))

    def do(self, deed):
        """Does a new deed: what was taken back cannot be done again."""
        self._kept = with_entry(self._kept, deed.name, deed.entry)
        self._done = self._done + (deed,)
        self._undone = ()

    def check_name(self, name):
        if not isinstance(name, str) or name not in self._kept:
            raise NoName(name)

    def names(self):
        return {name: self._kept[name][0] for name in self._kept}

    def held(self, name):
        self.check_name(name)
        kind, thing = self._kept[name]
        return told_thing(kind, thing)

    def told(self, name):
        self.check_name(name)
        kind, ask = self._kept[name]
        if kind != "ask":
            raise NotOf(name)
        subject = subject_of(ask, program_of(self._kept, name))
        if name not in self._answers or not self._answers[name].is_of(ask, subject):
            answer = Answer(ask, subject, answer_of(ask, subject))
            self._answers = {**self._answers, name: answer}
            self._made = self._made + (name,)
        answer = self._answers[name].answer
        return list(answer) if isinstance(answer, list) else answer

    def run(self, name):
        self.check_name(name)
        if self._kept[name][0] != "run":
            raise NotOf(name)
        return kept_run(self._kept, name)

    def made(self):
        made = list(self._made)
        self._made = ()
        return made

    def undo(self):
        if not self._done:
            raise Nothing()
        deed = self._done[-1]
        self._kept = with_entry(self._kept, deed.name, deed.ahead)
        self._done = self._done[:-1]
        self._undone = self._undone + (deed,)
        return deed.told()

    def again(self):
        if not self._undone:
            raise Nothing()
        deed = self._undone[-1]
        self._kept = with_entry(self._kept, deed.name, deed.entry)
        self._done = self._done + (deed,)
        self._undone = self._undone[:-1]
        return deed.told()

    def copy(self):
        other = House()
        other.take_over(self._kept, self._done, self._undone, self._answers, self._made)
        return other

    def take_over(self, kept, done, undone, answers, made):
        self._kept = kept
        self._done = done
        self._undone = undone
        self._answers = answers
        self._made = made

    def trial(self, work):
        kept = self._kept
        done, undone = self._done, self._undone
        answers, made = self._answers, self._made
        try:
            return work(self)
        finally:
            self._kept = kept
            self._done, self._undone = done, undone
            self._answers, self._made = answers, made
