"""Houses as texts, and texts read as houses."""

from meettasks.basics import is_word
from meettasks.errors import BadBody, BadText, TaskError
from meettasks.houseforms import ASKS, KINDS_KEPT, as_kept_step, check_kept
from meettasks.houses import House
from meettasks.logforms import as_line
from meettasks.programs import Program
from meettasks.programtexts import program_lines, read_parts
from meettasks.textlines import FURTHER, INWARD, Reader, as_number, as_truth, line_of, told_truth


def write_house(house):
    found = []
    kinds = house.names()
    for name in kinds:
        found.append(line_of(0, [kinds[name], name]))
        thing = house.held(name)
        if kinds[name] == "program":
            found.extend(program_lines(thing, INWARD))
        elif kinds[name] == "run":
            found.append(line_of(INWARD, ["of", thing[0]]))
            found.extend([line_of(INWARD, [str(part) for part in step]) for step in thing[1]])
        else:
            found.extend(ask_lines(thing))
    return "".join(found)


def ask_lines(ask):
    word = ask[0]
    if word in ("fits", "quarrels"):
        return [line_of(INWARD, [word, ask[1]])] + [line_of(FURTHER, log_words(line)) for line in ask[2]]
    if word in ("values", "left"):
        return [line_of(INWARD, [word, ask[1]])]
    found = [line_of(INWARD, [word, ask[1], told_truth(ask[3])])]
    found.extend([line_of(FURTHER, ["worth", name] + list(ask[2][name])) for name in ask[2]])
    marks = ask[4] if word == "keepers" else ()
    return found + [line_of(FURTHER, ["mark", task] + [str(number) for number in path]) for task, path in marks]


def log_words(line):
    if line[0] != "gap":
        return list(line)
    return ["gap", "any" if line[1] is None else str(line[1])]


def read_run(reader):
    program = reader.told_words(INWARD, "of", 1)[0]
    reader.go_on()
    steps = []
    words = reader.words_at(INWARD)
    while words:
        steps.append(read_step(reader, words))
        words = reader.words_at(INWARD)
    return program, tuple(steps)


def read_step(reader, words):
    step = as_kept_step(words[:2] + [as_number(word) for word in words[2:]])
    reader.check(step is not None)
    reader.go_on()
    return step


def read_ask(reader):
    words = reader.words_at(INWARD)
    reader.check(len(words) > 1 and words[0] in ASKS and is_word(words[1]))
    has_sentence = words[0] in ("holds", "keepers")
    reader.check(len(words) == (3 if has_sentence else 2))
    truth = as_truth(words[2]) if has_sentence else None
    reader.check(truth is not None or not has_sentence)
    reader.go_on()
    ask = (words[0], words[1])
    if has_sentence:
        ask = ask + (read_sentence(reader), truth)
    if words[0] == "keepers":
        ask = ask + (read_marks(reader),)
    return ask + (read_log(reader),) if words[0] in ("fits", "quarrels") else ask


def read_sentence(reader):
    found = {}
    while reader.is_at(FURTHER, "worth"):
        words = reader.told_words(FURTHER, "worth", None)
        reader.check(words and all([name < words[0] for name in found]))
        found[words[0]] = tuple(words[1:])
        reader.go_on()
    return found


def read_marks(reader):
    found = []
    while reader.is_at(FURTHER, "mark"):
        words = reader.words_at(FURTHER)
        reader.check(len(words) > 1 and is_word(words[1]))
        path = [as_number(word) for word in words[2:]]
        reader.check(None not in path)
        found.append((words[1], tuple(path)))
        reader.go_on()
    return tuple(found)


def read_log(reader):
    found = []
    words = reader.words_at(FURTHER)
    while words:
        if words[0] == "gap" and len(words) == 2 and words[1] != "any":
            many = as_number(words[1])
            reader.check(many is not None)
            line = ("gap", many)
        else:
            line = as_line(("gap", None) if words == ["gap", "any"] else words)
        reader.check(line is not None)
        found.append(line)
        reader.go_on()
        words = reader.words_at(FURTHER)
    return tuple(found)


class Entry:
    """What a text tells of one name, and the line at which it begins; of a program its parts."""

    def __init__(self, at, kind, thing):
        self.at = at
        self.kind = kind
        self.thing = thing


def read_entries(reader):
    """By names, ascending, what the text tells, as far as its lines alone can be wrong."""
    found = {}
    words = reader.words_at(0)
    while words:
        reader.check(len(words) == 2 and words[0] in KINDS_KEPT and is_word(words[1]))
        reader.check(all([name < words[1] for name in found]))
        at = reader.at
        reader.go_on()
        kind, name = words
        if kind == "program":
            found[name] = Entry(at, kind, read_parts(reader, INWARD))
        else:
            found[name] = Entry(at, kind, read_run(reader) if kind == "run" else read_ask(reader))
        words = reader.words_at(0)
    reader.check_end()
    return found


def made_program(entry):
    body, things = entry.thing
    try:
        return Program(body, things)
    except BadBody:
        raise BadText(entry.at)


def read_house(text):
    entries = read_entries(Reader(text))
    kept = {}
    for name in entries:
        entry = entries[name]
        kept[name] = (entry.kind, made_program(entry) if entry.kind == "program" else entry.thing)
    for name in entries:
        try:
            check_kept(kept, name)
        except TaskError:
            raise BadText(entries[name].at)
    house = House()
    house.take_over(kept, (), (), {}, ())
    return house
