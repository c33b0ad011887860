"""Code of a small machine: rows for each task, silent ones done at once or by themselves."""

from meettasks.basics import is_integer, is_list, is_pair
from meettasks.codeforms import check_code, check_silent, copied_row
from meettasks.errors import BadCuts
from meettasks.programs import checked_things, known_task


def masters_of(rows):
    """By tasks of nest rows who begins them."""
    return {one: task for task in rows for row, _ in rows[task] if row[0] == "nest" for one in row[1]}


def put_task(rows, task, found):
    """Puts a task behind those found, and those of its nests, each with all that it begins."""
    found.append(task)
    for row, _ in rows[task]:
        if row[0] == "nest":
            for one in sorted(row[1]):
                put_task(rows, one, found)


def tasks_in_order(rows):
    masters = masters_of(rows)
    found = []
    put_task(rows, "main", found)
    for task in rows:
        if task != "main" and task not in masters:
            put_task(rows, task, found)
    return found + [task for task in rows if task not in found]


class Code:
    """Code; it does not change. What is worked out of it is kept."""

    def __init__(self, rows, things=None):
        self._guarded = checked_things(things)
        check_code(rows, self._guarded)
        self._rows = {task: [copied_row(row) for row in rows[task]] for task in sorted(rows)}
        check_silent(self._rows)
        self._order = tasks_in_order(self._rows)
        self.kept = {}

    def __eq__(self, other):
        return isinstance(other, Code) and self._rows == other._rows and self._guarded == other._guarded

    def rows(self, task):
        return list(self._rows[known_task(self, task)])

    def tasks(self):
        return list(self._order)

    def things(self):
        return {name: self._guarded[name] for name in self._guarded}


def rows_by_task(code):
    """By tasks, in their order, the rows of each."""
    return {task: code.rows(task) for task in code.tasks()}


def is_row_on(code, task, number):
    """Whether any two objects are a task and the number of a row of it that is on."""
    if not isinstance(task, str) or task not in code.tasks() or not is_integer(number):
        return False
    rows = code.rows(task)
    return 0 <= number < len(rows) and rows[number][1]


def checked_cuts(code, cuts):
    """The cuts as they are told; BadCuts for the first that is none, or stood before."""
    if not is_list(cuts):
        raise BadCuts(0)
    found = []
    for index, thing in enumerate(cuts):
        if not is_pair(thing) or not is_row_on(code, thing[0], thing[1]) or tuple(thing) in found:
            raise BadCuts(index)
        found.append(tuple(thing))
    return found


def cut_code(code, cuts):
    found = checked_cuts(code, cuts)
    rows = rows_by_task(code)
    cut = {task: [(row, on and (task, number) not in found) for number, (row, on) in enumerate(rows[task])]
           for task in rows}
    return Code(cut, code.things())
