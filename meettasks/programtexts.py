"""Programs as texts, and texts read as programs."""

from meettasks.basics import is_word
from meettasks.programs import Program
from meettasks.textlines import INWARD, Reader, as_truth, line_of, told_truth
from meettasks.things import Thing

SHUT = "-"
WORDED = {"note": 1, "leave": 0, "use": 2, "wait": 2, "abort": 1}
BODIED = {"again": 0, "take": 1, "call": 2}


def write_program(program):
    return "".join(program_lines(program, 0))


def program_lines(program, indent):
    found = []
    things = program.things()
    for name in things:
        found.extend(thing_lines(name, things[name], indent))
    for task in program.tasks():
        found.append(line_of(indent, ["task", task]))
        found.extend(body_lines(program.body(task), indent + INWARD))
    return found


def thing_lines(name, thing, indent):
    worths = thing.worths()
    found = [line_of(indent, ["thing", name, thing.start()] + worths)]
    for word, tables in (("deed", thing.deeds()), ("entry", thing.entries())):
        for told in tables:
            found.append(line_of(indent, [word, told] + [tables[told].get(worth, SHUT) for worth in worths]))
    return found


def body_lines(body, indent):
    found = []
    for deed in body:
        found.extend(deed_lines(deed, indent))
    return found


def deed_lines(deed, indent):
    kind = deed[0]
    further = indent + INWARD
    if kind == "set":
        return [line_of(indent, [kind, deed[1], told_truth(deed[2])])]
    if kind == "if":
        first = [line_of(indent, [kind, deed[1]])] + body_lines(deed[2], further)
        return first + headed_lines(indent, ["else"], deed[3]) if deed[3] else first
    if kind == "pick":
        ways = [headed_lines(further, ["way"], body) for body in deed[1]]
        return [line_of(indent, [kind])] + [line for way in ways for line in way]
    if kind == "offer":
        return [line_of(indent, [kind])] + offer_lines(deed, further)
    if kind == "nest":
        return headed_lines(indent, [kind] + list(deed[1]), deed[2])
    if kind in BODIED:
        return headed_lines(indent, list(deed[:-1]), deed[-1])
    return [line_of(indent, list(deed))]


def headed_lines(indent, words, body):
    """A line with these words, and a body below it."""
    return [line_of(indent, words)] + body_lines(body, indent + INWARD)


def offer_lines(deed, indent):
    found = []
    for flag, entry, body in deed[1]:
        found.extend(headed_lines(indent, ["arm", entry] if flag is None else ["arm", entry, "if", flag], body))
    if deed[2] is None:
        return found
    return found + headed_lines(indent, [deed[2][0]], deed[2][1] if deed[2][0] == "else" else ())


def read_program(text):
    reader = Reader(text)
    body, things = read_parts(reader, 0)
    reader.check_end()
    return Program(body, things)


def read_parts(reader, indent):
    """The body of main and the things of the program whose text is next."""
    things = {}
    while reader.is_at(indent, "thing"):
        read_thing(reader, indent, things)
    return read_task(reader, indent, "main"), things


def read_thing(reader, indent, things):
    """Puts the thing whose text is next; things come ascending."""
    words = reader.told_words(indent, "thing", None)
    reader.check(len(words) > 2 and all([name < words[0] for name in things]))
    name, start, worths = words[0], words[1], words[2:]
    reader.check(start in worths and len(set(worths)) == len(worths))
    reader.go_on()
    deeds = read_tables(reader, indent, "deed", worths, {})
    entries = read_tables(reader, indent, "entry", worths, deeds)
    things[name] = Thing(worths, start, deeds, entries)


def read_tables(reader, indent, word, worths, barred):
    """The deeds, or entries, of a thing by their names, ascending, none of which is barred."""
    found = {}
    while reader.is_at(indent, word):
        words = reader.words_at(indent)
        reader.check(len(words) == len(worths) + 2 and is_word(words[1]) and words[1] not in barred)
        reader.check(all([name < words[1] for name in found]))
        led = words[2:]
        reader.check(all([one in worths or one == SHUT and word == "entry" for one in led]))
        found[words[1]] = {worth: led[at] for at, worth in enumerate(worths) if led[at] != SHUT}
        reader.go_on()
    return found


def read_task(reader, indent, task):
    """The body of a task, in the nests of which all tasks have theirs."""
    reader.check(reader.words_at(indent) == ["task", task])
    reader.go_on()
    nests = []
    body = read_body(reader, indent + INWARD, nests)
    for tasks in nests:
        for one in list(tasks):
            tasks[one] = read_task(reader, indent, one)
    return body


def read_body(reader, indent, nests):
    """The deeds that come next so far in; nests is added to."""
    found = []
    words = reader.words_at(indent)
    while words and words[0] in READERS:
        read = READERS[words[0]]
        found.append(read(reader, indent, nests))
        words = reader.words_at(indent)
    return found


def read_worded(reader, indent, nests):
    kind = reader.words_at(indent)[0]
    words = reader.told_words(indent, kind, WORDED[kind])
    reader.go_on()
    return tuple([kind] + words)


def read_bodied(reader, indent, nests):
    kind = reader.words_at(indent)[0]
    words = reader.told_words(indent, kind, BODIED[kind])
    reader.go_on()
    return tuple([kind] + words + [read_body(reader, indent + INWARD, nests)])


def read_set(reader, indent, nests):
    words = reader.told_words(indent, "set", 2)
    truth = as_truth(words[1])
    reader.check(truth is not None)
    reader.go_on()
    return "set", words[0], truth


def read_if(reader, indent, nests):
    flag = reader.told_words(indent, "if", 1)[0]
    reader.go_on()
    first = read_body(reader, indent + INWARD, nests)
    second = []
    if reader.words_at(indent) == ["else"]:
        reader.go_on()
        second = read_body(reader, indent + INWARD, nests)
        reader.check(second)
    return "if", flag, first, second


def read_pick(reader, indent, nests):
    reader.told_words(indent, "pick", 0)
    reader.go_on()
    further = indent + INWARD
    found = []
    while reader.words_at(further) == ["way"]:
        reader.go_on()
        found.append(read_body(reader, further + INWARD, nests))
    reader.check(len(found) > 1)
    return "pick", found


def read_arm(reader, indent, nests):
    words = reader.told_words(indent, "arm", None)
    reader.check(len(words) == 1 or len(words) == 3 and words[1] == "if")
    reader.go_on()
    flag = words[2] if len(words) == 3 else None
    return flag, words[0], read_body(reader, indent + INWARD, nests)


def read_offer(reader, indent, nests):
    reader.told_words(indent, "offer", 0)
    reader.go_on()
    further = indent + INWARD
    arms = []
    while reader.is_at(further, "arm"):
        arms.append(read_arm(reader, further, nests))
    reader.check(arms)
    if reader.words_at(further) == ["else"]:
        reader.go_on()
        return "offer", arms, ("else", read_body(reader, further + INWARD, nests))
    if reader.words_at(further) == ["end"]:
        reader.go_on()
        return "offer", arms, ("end",)
    return "offer", arms, None


def read_nest(reader, indent, nests):
    words = reader.told_words(indent, "nest", None)
    reader.check(words and all([words[at - 1] < words[at] for at in range(1, len(words))]))
    reader.go_on()
    tasks = {task: [] for task in words}
    nests.append(tasks)
    return "nest", tasks, read_body(reader, indent + INWARD, nests)


READERS = {"note": read_worded, "leave": read_worded, "use": read_worded, "wait": read_worded, "abort": read_worded,
           "again": read_bodied, "take": read_bodied, "call": read_bodied, "set": read_set, "if": read_if,
           "pick": read_pick, "offer": read_offer, "nest": read_nest}
