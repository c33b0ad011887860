"""Rows of code as anybody may pass them: what is a row, where it leads, and the first one against a rule."""

from meettasks.basics import is_integer, is_list, is_pair, is_word
from meettasks.checking import has_use, has_wait
from meettasks.errors import BadCode, Silent

SILENT_ROWS = ("set", "unless", "go", "free", "over")
LAST_ROWS = ("go", "offer", "pick", "over")


def is_code_arm(thing):
    return (is_list(thing) and len(thing) == 3 and (thing[0] is None or is_word(thing[0]))
            and is_word(thing[1]) and is_integer(thing[2]))


def is_code_other(thing):
    if thing is None:
        return True
    if not is_list(thing) or not thing or not isinstance(thing[0], str):
        return False
    if thing[0] == "else":
        return is_pair(thing) and is_integer(thing[1])
    return thing[0] == "end" and len(thing) == 1


def are_unlike_words(thing):
    if not is_list(thing) or not thing or not all([is_word(word) for word in thing]):
        return False
    return len(set(thing)) == len(thing)


def has_row_form(kind, rest):
    """Whether what stands behind the kind is right, by how many there are and by each."""
    if len(rest) == 0:
        return kind in ("free", "close", "over")
    if len(rest) == 1:
        if kind in ("note", "take", "abort"):
            return is_word(rest[0])
        if kind == "pick":
            return is_list(rest[0]) and len(rest[0]) > 1 and all([is_integer(place) for place in rest[0]])
        return kind == "go" and is_integer(rest[0]) or kind == "nest" and are_unlike_words(rest[0])
    if len(rest) == 2:
        if kind == "offer":
            return (is_list(rest[0]) and len(rest[0]) > 0 and all([is_code_arm(arm) for arm in rest[0]])
                    and is_code_other(rest[1]))
        if kind in ("use", "wait"):
            return is_word(rest[0]) and is_word(rest[1])
        if kind == "set":
            return is_word(rest[0]) and isinstance(rest[1], bool)
        return kind == "unless" and is_word(rest[0]) and is_integer(rest[1])
    return len(rest) == 3 and kind == "call" and is_word(rest[0]) and is_word(rest[1]) and is_integer(rest[2])


def is_code_row(thing):
    """Whether it is a pair of a row of a right form and a truth, whatever it tells."""
    if not is_pair(thing) or not isinstance(thing[1], bool):
        return False
    row = thing[0]
    if not is_list(row) or not row or not isinstance(row[0], str):
        return False
    return has_row_form(row[0], row[1:])


def copied_row(thing):
    """A code row with tuples throughout."""
    row, on = thing
    if row[0] == "offer":
        other = row[2] if row[2] is None else tuple(row[2])
        return ("offer", tuple([tuple(arm) for arm in row[1]]), other), on
    return tuple([tuple(part) if is_list(part) else part for part in row]), on


def places_in(row):
    """The places that a row tells."""
    if row[0] == "pick":
        return list(row[1])
    if row[0] == "offer":
        places = [arm[2] for arm in row[1]]
        return places + [row[2][1]] if row[2] is not None and row[2][0] == "else" else places
    return [row[-1]] if row[0] in ("unless", "go", "call") else []


def entries_taken(rows):
    """The entries that rows of a right form take or offer, ascending."""
    found = set()
    for row, _ in rows:
        if row[0] == "take":
            found.add(row[1])
        elif row[0] == "offer":
            for arm in row[1]:
                found.add(arm[1])
    return sorted(found)


class Listing:
    """All rows as they were passed, and of those of a right form who takes what, and how many nests have whom."""

    def __init__(self, rows, things):
        self.rows = rows
        self.things = things
        self.right = {task: [row for row in rows[task] if is_code_row(row)] if is_list(rows[task]) else []
                      for task in rows}
        self.entries = {task: entries_taken(self.right[task]) for task in rows}
        self.nested = {}
        for task in rows:
            for row, _ in self.right[task]:
                for one in row[1] if row[0] == "nest" else []:
                    self.nested[one] = self.nested.get(one, 0) + 1

    def tells_wrong(self, row):
        """Whether a row tells what is not there, or may not be told."""
        kind = row[0]
        if kind == "nest":
            return any([task == "main" or task not in self.rows or self.nested[task] > 1 for task in row[1]])
        if kind == "use":
            return not has_use(self.things, row[1], row[2])
        if kind == "wait":
            return not has_wait(self.things, row[1], row[2])
        if kind not in ("call", "abort"):
            return False
        if row[1] == "main" or row[1] not in self.rows:
            return True
        return kind == "call" and row[2] not in self.entries[row[1]]

    def is_wrong(self, task, number):
        rows = self.rows[task]
        if not is_code_row(rows[number]):
            return True
        row, on = rows[number]
        if on and row[0] not in SILENT_ROWS:
            return True
        if not all([0 <= place < len(rows) for place in places_in(row)]):
            return True
        return number == len(rows) - 1 and row[0] not in LAST_ROWS or self.tells_wrong(row)


def check_code(rows, things):
    """BadCode for the first row against a rule."""
    if not isinstance(rows, dict):
        raise BadCode("main", None)
    for task in rows:
        if not is_word(task):
            raise BadCode(task, None)
    if "main" not in rows:
        raise BadCode("main", None)
    listing = Listing(rows, things)
    for task in sorted(rows):
        if not is_list(rows[task]) or not rows[task]:
            raise BadCode(task, None)
        for number in range(len(rows[task])):
            if listing.is_wrong(task, number):
                raise BadCode(task, number)


def silent_goes(rows, number):
    """The rows that are on to which one that is on leads, each "unless" both ways."""
    row, on = rows[number]
    if not on or row[0] == "over":
        return []
    goes = places_in(row) if row[0] == "go" else [number + 1] + places_in(row)
    return [place for place in goes if rows[place][1]]


def comes_back(rows, number):
    """Whether rows that are on lead from one of them back to itself."""
    seen = set()
    coming = silent_goes(rows, number)
    while coming:
        place = coming.pop()
        if place == number:
            return True
        if place not in seen:
            seen.add(place)
            coming.extend(silent_goes(rows, place))
    return False


def check_silent(rows):
    """Silent for the first row, by tasks, of those that are on and lead round."""
    for task in sorted(rows):
        for number in range(len(rows[task])):
            if comes_back(rows[task], number):
                raise Silent(task, number)
