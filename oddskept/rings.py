"""Lines that lead to one another: rings, and the most lines of one kind on a way."""


def knots(follow):
    """Return the groups of lines that lead to one another; `follow` has the followers of each line.

    A line on no ring is a group by itself. No line leads to a line of an earlier group.
    """
    backs = [[] for _ in follow]
    for line, ones in enumerate(follow):
        for one in ones:
            backs[one].append(line)
    grouped = [False] * len(follow)
    groups = []
    # What leads to a line that was left last, among the lines without a group, lies on a ring with it.
    for start in reversed(_lines_as_left(follow)):
        group = []
        waiting = [start]
        while waiting:
            line = waiting.pop()
            if not grouped[line]:
                grouped[line] = True
                group.append(line)
                waiting.extend(backs[line])
        if group:
            groups.append(group)
    return groups


def _lines_as_left(follow):
    """Return the lines in the order in which a walk that goes as deep as it can leaves them for good."""
    met = [False] * len(follow)
    left = []
    for start in range(len(follow)):
        trail = [] if met[start] else [start]
        while trail:
            met[trail[-1]] = True
            fresh = [line for line in follow[trail[-1]] if not met[line]]
            if fresh:
                trail.append(fresh[0])
            else:
                left.append(trail.pop())
    return left


def most_ahead(follow, groups, marked):
    """Return, for each line, the most marked lines on a sequence of lines that begins there.

    The groups are those of `knots`. No marked line lies on a ring.
    """
    ahead = [0] * len(follow)
    for group in reversed(groups):
        # The lines of the group itself still have 0 here.
        most = max([ahead[one] for line in group for one in follow[line]], default=0)
        for line in group:
            ahead[line] = most + (1 if marked[line] else 0)
    return ahead


def all_ahead(follow, groups, masks):
    """Return, for each line, all bits of the masks of the lines on sequences of lines that begin there.

    The groups are those of `knots`.
    """
    ahead = [0] * len(follow)
    for group in reversed(groups):
        mask = 0
        for line in group:
            mask |= masks[line]
            for one in follow[line]:
                mask |= ahead[one]
        for line in group:
            ahead[line] = mask
    return ahead


def lines_off_rings(follow, chosen):
    """Return a dict with those of the chosen lines that lie on no ring of chosen lines alone."""
    among = {line: True for line in chosen}
    kept = [[one for one in ones if one in among] if line in among else [] for line, ones in enumerate(follow)]
    off = {}
    for group in knots(kept):
        line = group[0]
        if line in among and len(group) == 1 and line not in kept[line]:
            off[line] = True
    return off
