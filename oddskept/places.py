"""The places of scripts and of plans, gone through without recursion."""


def places_of(script):
    """Return the list of the tuples (index of the parent, place) of a script, each behind its parent.

    The script itself is the first place and its own parent.
    """
    places = [(0, script)]
    at = 0
    while at < len(places):
        _, children = places[at][1]
        places.extend([(at, child) for _, child in children])
        at += 1
    return places


def most_on_a_path(parents, marked):
    """Return the most marked places on a path, for the index of the parent of each place, as `places_of` gives it."""
    below = [0] * len(parents)
    for at in reversed(range(len(parents))):
        most = below[at] + (1 if marked[at] else 0)
        below[parents[at]] = max(below[parents[at]], most)
    return below[0]
