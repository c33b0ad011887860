"""All that comes with any number of like ones, and how many are enough."""

from meettasks.basics import is_integer
from meettasks.covers import least_number
from meettasks.crowdsteps import crowd_steps
from meettasks.errors import BadMany, NoSpot
from meettasks.leaststands import as_spot, search_for


def least_for(crowd, known, counts):
    search, _ = search_for(crowd, known, counts)
    return least_number(search)


def all_numbers(crowd):
    """The least numbers of all known stands, and of all spots; None where none comes."""
    if "numbers" not in crowd.kept:
        steps = crowd_steps(crowd)
        known = list(range(len(steps.told)))
        crowd.kept["numbers"] = ([least_for(crowd, [at], {}) for at in known],
                                 [least_for(crowd, known, {spot: 1}) for spot in range(len(steps.spots))])
    return crowd.kept["numbers"]


def known_numbers(crowd):
    by_known, _ = all_numbers(crowd)
    return [(told, by_known[at]) for at, told in enumerate(crowd_steps(crowd).told) if by_known[at] is not None]


def spot_numbers(crowd):
    _, by_spot = all_numbers(crowd)
    return {spot: by_spot[at] for at, spot in enumerate(crowd_steps(crowd).spots) if by_spot[at] is not None}


def enough(crowd):
    by_known, by_spot = all_numbers(crowd)
    return max([many for many in by_known + by_spot if many is not None])


def most_in(crowd, spot, most):
    steps = crowd_steps(crowd)
    asked = as_spot(spot)
    if asked not in steps.number:
        raise NoSpot(spot)
    if not is_integer(most) or most < 1:
        raise BadMany(most)
    known = list(range(len(steps.told)))
    many = 0
    while many < most and least_for(crowd, known, {steps.number[asked]: many + 1}) is not None:
        many += 1
    return many
