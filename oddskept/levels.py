"""Dead levels of pairs, and the grades of stocks."""

from oddskept.levelgraph import LevelGraph, graph_of
from oddskept.nodes import first_node
from oddskept.swiftweb import SwiftWeb
from oddskept.web import Web


def dead_at(stock, pair):
    """Return the dead level of a pair, None if it has none."""
    state, plain = pair
    return LevelGraph(Web(stock), (state, (plain,))).levels[0]


def grade_of(stock):
    """Return the grade of a stock: an integer, or None for ever."""
    return LevelGraph(SwiftWeb(stock), first_node(stock)).levels[0]


def levels_of(stock):
    """Return the list of the numbers of reachable pairs that are dead at 0, at 1 and so on, while they rise."""
    graph = graph_of(stock)
    found = [level for number, level in enumerate(graph.levels) if level is not None and graph.is_single(number)]
    counts = [0] * (max(found, default=0) + 1)
    for level in found:
        counts[level] += 1
    # No level but the first is without pairs: nothing is dead at a level above one at which nothing new is dead.
    return [sum(counts[:level + 1]) for level in range(len(counts))]
