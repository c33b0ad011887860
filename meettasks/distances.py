"""All whole distances between two notes, and courses with them."""

from meettasks.basics import is_integer
from meettasks.errors import BadNumber, NoNote
from meettasks.lawful import bounds_by, course_by
from meettasks.meetings import lawful_lists
from meettasks.timed import timed_plan


def checked_note(timed, word):
    """The pair (task, path) at which a word is noted."""
    if isinstance(word, str):
        for spots in timed_plan(timed).spots:
            for spot in spots:
                if spot.deed == ("note", word):
                    return spot.pair
    raise NoNote(word)


def happening_bounds(timed):
    """The bounds of all orders in which some course happens."""
    if "orders" not in timed.kept:
        orders = lawful_lists(timed_plan(timed))
        timed.kept["orders"] = [events for events in orders if bounds_by(timed, events).moments() is not None]
    return [bounds_by(timed, events) for events in timed.kept["orders"]]


def joined(stretches):
    """Stretches of whole numbers as few as can be, no two touching, ascending."""
    found = []
    for low, high in sorted(stretches):
        if found and low <= found[-1][1] + 1:
            found[-1] = (found[-1][0], max(high, found[-1][1]))
        else:
            found.append((low, high))
    return found


def stretches_between(timed, start, goal):
    """The least and the greatest distance in each order in which some course comes to both, with its bounds."""
    found = []
    for bounds in happening_bounds(timed):
        if start in bounds.pairs and goal in bounds.pairs:
            behind, _ = bounds.least_from(start)
            ahead, _ = bounds.least_from(goal)
            found.append((-ahead[start], behind[goal], bounds))
    return found


def distances(timed, one, other):
    start = checked_note(timed, one)
    goal = checked_note(timed, other)
    return joined([(low, high) for low, high, _ in stretches_between(timed, start, goal)])


def course_at(timed, one, other, number):
    start = checked_note(timed, one)
    goal = checked_note(timed, other)
    if not is_integer(number):
        raise BadNumber(number)
    for low, high, bounds in stretches_between(timed, start, goal):
        if low <= number <= high:
            return course_by(bounds, bounds.moments_at(start, goal, number))
    return None
