"""What kinds of objects there are: words, integers, lists, and their order."""

LETTERS = "abcdefghijklmnopqrstuvwxyz"
LONGEST_WORD = 8


def is_word(thing):
    if not isinstance(thing, str) or not 1 <= len(thing) <= LONGEST_WORD:
        return False
    return all([sign in LETTERS for sign in thing])


def is_integer(thing):
    return isinstance(thing, int) and not isinstance(thing, bool)


def is_list(thing):
    return isinstance(thing, (list, tuple))


def is_path(thing):
    return is_list(thing) and all([is_integer(number) for number in thing])


def is_pair(thing):
    return is_list(thing) and len(thing) == 2


def first_bad_word(words, known):
    """The index of the first of a list that is none of the known words, or stood before; None if there is none."""
    seen = set()
    for index, word in enumerate(words):
        if not isinstance(word, str) or word not in known or word in seen:
            return index
        seen.add(word)
    return None


def by_choice(rows):
    """Rows in the order of choices: fewest things, then the first unlike thing."""
    return sorted(rows, key=lambda row: (len(row), row))


def all_lots(things):
    """All lots of things, as tuples in their order, in the order of choices by places."""
    lots = [()]
    found = [()]
    for _ in things:
        lots = [lot + (place,) for lot in lots for place in range(lot[-1] + 1 if lot else 0, len(things))]
        found = found + lots
    return [tuple([things[place] for place in lot]) for lot in found]


def is_within(lot, other):
    return all([thing in other for thing in lot])


def least_lots(things, works):
    """All least lots of things that a test lets, in the order of choices by places."""
    found = []
    for lot in all_lots(things):
        if not any([is_within(less, lot) for less in found]) and works(lot):
            found.append(lot)
    return found
