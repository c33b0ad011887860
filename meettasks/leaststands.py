"""What some number of like ones comes to, and what comes with no number."""

from meettasks.basics import is_integer, is_list, is_pair, is_path
from meettasks.bodies import SILENT, deed_at
from meettasks.covers import Packing, Search, least_number, shortest_steps
from meettasks.crowdsteps import crowd_steps
from meettasks.errors import BadWanted


def as_spot(thing):
    """A spot as it is told, None for any object that is none by its form."""
    if not is_pair(thing) or not isinstance(thing[0], str) or not is_path(thing[1]):
        return None
    return thing[0], tuple(thing[1])


def as_counts(crowd, thing):
    """Counts by numbers of spots, None for any object that is none."""
    if not isinstance(thing, dict):
        return None
    number = crowd_steps(crowd).number
    found = {}
    for key in thing:
        spot = as_spot(key)
        if spot not in number or not is_integer(thing[key]) or thing[key] < 1:
            return None
        found[number[spot]] = thing[key]
    return found


def is_place(crowd, task, path):
    """Whether a path leads to a step of a server."""
    if not isinstance(task, str) or task not in crowd.servers().names():
        return False
    deed = deed_at(crowd.servers().program().body(task), path)
    return deed is not None and deed[0] not in SILENT


def checked_wanted(crowd, wanted):
    """The numbers of the known stands with the wanted places, and the counts; BadWanted."""
    if not is_pair(wanted) or not isinstance(wanted[0], dict):
        raise BadWanted(wanted)
    places = wanted[0]
    counts = as_counts(crowd, wanted[1])
    if counts is None or not all([is_place(crowd, task, places[task]) for task in places]):
        raise BadWanted(wanted)
    names = crowd.servers().names()
    known = [at for at, told in enumerate(crowd_steps(crowd).told)
             if all([told[0][names.index(task)][0] == tuple(places[task]) for task in places])]
    return known, counts


def search_for(crowd, known, counts):
    """The search for some known stands with counts, and its goals."""
    steps = crowd_steps(crowd)
    packing = Packing(len(steps.spots), max([0] + [counts[spot] for spot in counts]))
    goals = [(at, packing.packed(counts)) for at in known]
    return Search(steps, packing, goals), goals


def least_many(crowd, wanted):
    known, counts = checked_wanted(crowd, wanted)
    search, _ = search_for(crowd, known, counts)
    return least_number(search)


def run_to(crowd, wanted):
    known, counts = checked_wanted(crowd, wanted)
    search, goals = search_for(crowd, known, counts)
    many = least_number(search)
    return None if many is None else shortest_steps(search, many, goals)


def least_stands(crowd, wanted):
    known, counts = checked_wanted(crowd, wanted)
    search, _ = search_for(crowd, known, counts)
    steps = search.steps
    found = []
    stand = search.next_stand()
    while stand is not None:
        inner = search.packing.counts_in(stand[1])
        found.append((steps.told[stand[0]], {steps.spots[spot]: inner[spot] for spot in inner}))
        stand = search.next_stand()
    return sorted(found, key=lambda pair: (pair[0], list(pair[1].items())))


def as_known(thing):
    """A known stand as it is told, None for any object that is none by its form."""
    if not is_pair(thing) or not is_list(thing[0]) or not is_list(thing[1]):
        return None
    places = []
    for place in thing[0]:
        if not is_pair(place) or not is_path(place[0]) or not is_words(place[1]):
            return None
        places.append((tuple(place[0]), tuple(place[1])))
    return (tuple(places), tuple(thing[1])) if is_words(thing[1]) else None


def is_words(thing):
    return is_list(thing) and all([isinstance(word, str) for word in thing])


def as_stands(crowd, thing):
    """The pairs of known stands, by their numbers, and counts, by those of spots; None for any object that is none."""
    if not is_list(thing):
        return None
    number = {told: at for at, told in enumerate(crowd_steps(crowd).told)}
    found = []
    for pair in thing:
        if not is_pair(pair):
            return None
        known = as_known(pair[0])
        counts = as_counts(crowd, pair[1])
        if known not in number or counts is None:
            return None
        found.append((number[known], counts))
    return found


def shows_never(crowd, wanted, thing):
    known, counts = checked_wanted(crowd, wanted)
    pairs = as_stands(crowd, thing)
    if pairs is None:
        return False
    numbers = [inner[spot] for _, inner in pairs + [(0, counts)] for spot in inner]
    steps = crowd_steps(crowd)
    packing = Packing(len(steps.spots), max([0] + numbers))
    search = Search(steps, packing, [])
    for at, inner in pairs:
        search.rows[at].append(packing.packed(inner))
    if not all([packing.is_covered(packing.packed(counts), search.rows[at]) for at in known]):
        return False
    for at, rows in enumerate(search.rows):
        for lot in rows:
            if search.is_home(at, lot) or not is_led_to(search, at, lot):
                return False
    return True


def is_led_to(search, known, lot):
    """Whether each least stand before these counts of a known stand has one of the rows within it."""
    for source, step in search.steps.sources[known]:
        if not search.packing.is_covered(search.packing.before(lot, step), search.rows[source]):
            return False
    return True
