"""First ways through places of any kind, in the order of choices."""

ARRIVED = -1


def first_way(start, ways):
    """The first row of steps from start to ARRIVED, None if there is none; ways tells pairs (step, place)."""
    parents = {start: None}
    coming = [start]
    at = 0
    while at < len(coming):
        place = coming[at]
        at += 1
        # Places come in the order of their first ways, so the first one that is met by least steps is the first.
        for step, target in sorted(ways(place), key=lambda way: way[0]):
            if target == ARRIVED:
                return way_to(parents, place) + [step]
            if target not in parents:
                parents[target] = (place, step)
                coming.append(target)
    return None


def way_to(parents, place):
    steps = []
    while parents[place] is not None:
        place, step = parents[place]
        steps.append(step)
    steps.reverse()
    return steps
