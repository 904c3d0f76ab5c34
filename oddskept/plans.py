"""Plans: schedulers that see what has fallen; and the runs that they bring about."""

from oddskept.errors import BadPlan
from oddskept.hall import first_position
from oddskept.picking import is_pick, played, sides_of
from oddskept.places import most_on_a_path
from oddskept.shares import Share


class Run:
    """What one path through a plan brings about: its chance and its events."""

    def __init__(self, chance, trace):
        self.chance = chance
        self.trace = tuple([tuple(event) for event in trace])
        self.prints = _numbers_of(self.trace, "print")
        self.sides = _numbers_of(self.trace, "side")


def _numbers_of(trace, wanted):
    """Return the tuple of the numbers of the events with this word."""
    return tuple([number for _, _, word, number in trace if word == wanted])


def plan_throws(plan):
    """Return the greatest number of plans with branches on a path."""
    parents = [0]
    places = [plan]
    at = 0
    while at < len(places):
        _, branches = places[at]
        places.extend(branches)
        parents.extend([at] * len(branches))
        at += 1
    return most_on_a_path(parents, [len(branches) > 0 for _, branches in places])


def fits(hall, plan):
    """Tell whether a plan fits a hall."""
    waiting = [(plan, first_position(hall))]
    while waiting:
        (picks, branches), position = waiting.pop()
        reached = _reached(hall, position, picks)
        if reached is None:
            return False
        position, _, sides = reached
        if len(branches) != sides:
            return False
        for side, branch in enumerate(branches):
            goal, _ = played(hall, position, picks[-1], side)
            waiting.append((branch, goal))
    return True


def _reached(hall, position, picks):
    """Play the picks of one plan from a position, but not a last one that throws a coin.

    Return the position reached, the list of the events, and the number of sides of the coin, 0 if none
    falls; or None if a pick is not among those of the position where it is made, or throws and is not the last.
    """
    events = []
    for at, pick in enumerate(picks):
        if not is_pick(hall, position, pick):
            return None
        sides = sides_of(hall, position, pick)
        if sides > 0:
            return (position, events, sides) if at == len(picks) - 1 else None
        position, event = played(hall, position, pick, 0)
        if event is not None:
            events.append(event)
    return (position, events, 0)


def run_plan(hall, plan, tape):
    """Return the run of the path that the sides on a tape tell."""
    if not fits(hall, plan):
        raise BadPlan("the plan does not fit the hall")
    position = first_position(hall)
    chance = Share(1)
    trace = []
    thrown = 0
    picks, branches = plan
    position, events, sides = _reached(hall, position, picks)
    while sides > 0:
        side = tape[thrown] % sides if thrown < len(tape) else 0
        thrown += 1
        position, event = played(hall, position, picks[-1], side)
        trace.extend([*events, event])
        chance = chance * Share(1, sides)
        picks, branches = branches[side]
        position, events, sides = _reached(hall, position, picks)
    return Run(chance, trace + events)


def outcomes(hall, plan):
    """Yield the runs of all paths of a plan, ascending by their sides."""
    if not fits(hall, plan):
        raise BadPlan("the plan does not fit the hall")
    # The branches that are still to be gone through, the next one last, with the chances and traces up to them.
    waiting = [(plan, first_position(hall), Share(1), ())]
    while waiting:
        (picks, branches), position, chance, trace = waiting.pop()
        position, events, sides = _reached(hall, position, picks)
        trace = (*trace, *events)
        if sides == 0:
            yield Run(chance, trace)
        for side in reversed(range(sides)):
            goal, event = played(hall, position, picks[-1], side)
            waiting.append((branches[side], goal, chance * Share(1, sides), (*trace, event)))
