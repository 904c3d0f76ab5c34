"""The border between the sets that hold and those that do not, where a set holds if a subset of it does."""


def subsets_of(items):
    """Return the list of the subsets of items, each a tuple in the order of the items, smaller ones first."""
    sets = [()]
    for item in items:
        sets = sets + [(*one, item) for one in sets]
    return sorted(sets, key=len)


def border(sets, holds):
    """Return the least sets that hold and the greatest that do not, as ascending tuples.

    Smaller sets stand first, and all subsets of a set that is there are there, too.
    """
    told = {}
    for one in sets:
        if one not in told and not _ask(sets, holds, told, one):
            _grow(sets, holds, told, one)
    least = [one for one in sets if told[one]
             and not any([told[other] and _is_part(other, one) for other in sets])]
    greatest = [one for one in sets if not told[one]
                and not any([not told[other] and _is_part(one, other) for other in sets])]
    return tuple(sorted(least)), tuple(sorted(greatest))


def _ask(sets, holds, told, one):
    """Tell whether a set holds, and note what that tells of others."""
    told[one] = holds(one)
    for other in sets:
        smaller, greater = (one, other) if told[one] else (other, one)
        if _is_part(smaller, greater):
            told[other] = told[one]
    return told[one]


def _grow(sets, holds, told, one):
    """Ask of greater and greater sets, as long as they do not hold, which tells of many at once."""
    for other in sets:
        if len(other) == len(one) + 1 and _is_part(one, other):
            if other not in told:
                _ask(sets, holds, told, other)
            if not told[other]:
                one = other


def _is_part(one, other):
    """Tell whether a set is a subset of another one that is greater."""
    return len(one) < len(other) and all([item in other for item in one])
