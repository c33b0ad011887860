"""Bodies of jobs: parts, the units of which some are done within guarded things."""

from meettasks.basics import is_integer, is_list, is_pair, is_word


def is_part(thing, around):
    """Whether it is a part that stands in parts of these things."""
    if is_integer(thing):
        return thing >= 1
    if not is_pair(thing) or not is_word(thing[0]) or thing[0] in around:
        return False
    return are_parts(thing[1], around + [thing[0]])


def are_parts(thing, around):
    return is_list(thing) and len(thing) > 0 and all([is_part(part, around) for part in thing])


def copied_parts(parts):
    return tuple([part if is_integer(part) else (part[0], copied_parts(part[1])) for part in parts])


class Span:
    """A part with a thing: its path, and from which unit of the job on up to which its units go."""

    def __init__(self, path, thing, first, stop):
        self.path = path
        self.thing = thing
        self.first = first
        self.stop = stop

    def is_inside(self, done):
        """Whether a job that has done so many units is inside the thing by this part."""
        return self.first < done < self.stop


def spans_in(parts, path, first):
    """All spans of a body that begins with a unit, each ahead of those in it, and the unit behind the body."""
    found = []
    for number, part in enumerate(parts):
        if is_integer(part):
            first += part
        else:
            inner, stop = spans_in(part[1], path + (number,), first)
            found.append(Span(path + (number,), part[0], first, stop))
            found.extend(inner)
            first = stop
    return found, first
