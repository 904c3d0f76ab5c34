"""Standings: positions of a hall beside the count of the numbers of a goal that have been printed."""

from oddskept.hall import first_position, picks_of
from oddskept.picking import played, sides_of


def standings_behind(hall, goal, standing):
    """Return the list of the tuples (pick, standings behind it) of a standing that is not won.

    There is one standing for each side of a coin that falls, otherwise one, and none if the goal is lost.
    A thread that is None in the position has no picks.
    """
    position, count = standing
    behind = []
    picks = [pick for thread, one in enumerate(position[1]) if one is not None
             for pick in picks_of(hall, position, thread)]
    for pick in picks:
        sides = sides_of(hall, position, pick)
        if sides > 0:
            ways = [(played(hall, position, pick, side)[0], count) for side in range(sides)]
        else:
            ways = _behind_pick(hall, goal, standing, pick)
        behind.append((pick, ways))
    return behind


def _behind_pick(hall, goal, standing, pick):
    """Return the list of the standing behind a pick that throws no coin, [] if the goal is lost."""
    position, count = standing
    position, event = played(hall, position, pick, 0)
    if event is None or event[2] != "print":
        return [(position, count)]
    return [(position, count + 1)] if event[3] == goal[count] else []


class StandingGraph:
    """The standings that are reached for a goal, each of them settled, and what leads from one to the other.

    A standing is settled by a `Focus`, unless it is won; without a focus, each one is settled. A *way* is a tuple
    (picks that are done at once, number of the settled standing behind them). `start` is the way from the first
    standing; `leads` has for each standing the list of its tuples (pick, list of the ways behind it), as
    `standings_behind` tells. `ahead` has the most throws that are still to come.
    """

    def __init__(self, hall, goal, focus=None):
        self.standings = []
        self.leads = []
        self._hall = hall
        self._goal = tuple(goal)
        self._focus = focus
        self._numbers = {}
        self.start = self._way_to((first_position(hall), 0))
        while len(self.leads) < len(self.standings):
            self.leads.append(self._leads_from(self.standings[len(self.leads)]))
        self.ahead = [_throws_ahead(hall.program, position) for position, _ in self.standings]

    def is_won(self, standing):
        """Tell whether all numbers of the goal have been printed."""
        return standing[1] == len(self._goal)

    def _leads_from(self, standing):
        """Return the list of the tuples (pick, list of the ways behind it) of a standing."""
        if self.is_won(standing):
            return []
        behind = standings_behind(self._hall, self._goal, standing)
        return [(pick, [self._way_to(one) for one in reached]) for pick, reached in behind]

    def _way_to(self, standing):
        """Return the way that goes on from a standing, behind which the settled standing has a number."""
        picks = ()
        if self._focus is not None and not self.is_won(standing):
            picks, position = self._focus.settled(standing[0])
            standing = (position, standing[1])
        if standing not in self._numbers:
            self._numbers[standing] = len(self.standings)
            self.standings.append(standing)
        return (picks, self._numbers[standing])


def _throws_ahead(program, position):
    """Return the most throws on sequences of lines of all threads from a position on."""
    return sum([program.throws_ahead(thread, one[0]) for thread, one in enumerate(position[1]) if one is not None])
