"""Prices: lists that show that no plan has better odds for a goal."""

from oddskept.chances import Chances
from oddskept.hall import first_position
from oddskept.shares import Share, mean
from oddskept.standings import StandingGraph, standings_behind


def make_prices(hall, goal):
    """Return a price list with the best odds from each reached standing."""
    graph = StandingGraph(hall, goal)
    chances = Chances(hall.program, graph)
    return tuple([(position, count, Share(top, chances.bottom))
                  for (position, count), top in zip(graph.standings, chances.tops)])


def judge_prices(hall, goal, prices, share):
    """Tell whether a price list shows that the odds of every plan are at most the share."""
    wanted = tuple(goal)
    listed = {(position, count): price for position, count, price in prices}
    if len(listed) < len(prices) or not all([Share(0).at_most(price) for _, _, price in prices]):
        return False
    first = (first_position(hall), 0)
    if first not in listed or not listed[first].at_most(share):
        return False
    return all([_is_high_enough(hall, wanted, listed, standing) for standing in listed])


def _is_high_enough(hall, goal, listed, standing):
    """Tell whether the price of a standing is at least that of what its picks lead to."""
    price = listed[standing]
    if standing[1] >= len(goal):
        return Share(1).at_most(price)
    for _, behind in standings_behind(hall, goal, standing):
        if not all([one in listed for one in behind]):
            return False
        if behind and not mean([listed[one] for one in behind]).at_most(price):
            return False
    return True
