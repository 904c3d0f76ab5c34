"""The best odds of halls, and the plans that have them."""

from oddskept.chances import Chances
from oddskept.focus import Focus
from oddskept.shares import Share
from oddskept.standings import StandingGraph


def best_odds(hall, goal):
    """Return the greatest odds of all plans that fit a hall."""
    graph, chances = _worked_out(hall, goal)
    return Share(chances.tops[graph.start[1]], chances.bottom)


def best_plan(hall, goal):
    """Return a plan that fits a hall and has the best odds."""
    graph, chances = _worked_out(hall, goal)
    pieces = _pieces_from(chances, graph.start[1])
    plans = {}
    # Behind a throw there are fewer throws ahead, so branches are made first; equal ones are one tuple.
    for number in sorted(pieces, key=lambda one: graph.ahead[one]):
        picks, ways = pieces[number]
        plans[number] = (picks, tuple([_plan_along(way, plans, chances) for way in ways]))
    return _plan_along(graph.start, plans, chances)


def _worked_out(hall, goal):
    """Return the graph of the standings of a hall that matter for a goal, and the best odds from them."""
    graph = StandingGraph(hall, goal, Focus(hall))
    return graph, Chances(hall.program, graph)


def _pieces_from(chances, start):
    """Return, for each standing where the best plan may have a branch begin, its picks and the ways behind them."""
    pieces = {}
    waiting = [start]
    while waiting:
        number = waiting.pop()
        if number not in pieces:
            pieces[number] = _piece_at(chances, number)
            waiting.extend([goal for _, goal in pieces[number][1]])
    return pieces


def _piece_at(chances, number):
    """Return the picks that are best from a standing up to a throw or the end, and the ways behind the throw."""
    picks = []
    while chances.chosen[number] is not None:
        pick, ways = chances.chosen[number]
        picks.append(pick)
        if len(ways) > 1:
            return tuple(picks), ways
        ahead, number = ways[0]
        picks.extend(ahead)
    return tuple(picks), []


def _plan_along(way, plans, chances):
    """Return the plan that begins with a way, the empty one if the goal cannot be reached."""
    ahead, number = way
    if chances.tops[number] == 0:
        return ((), ())
    picks, branches = plans[number]
    return (ahead + picks, branches)
