"""Scripts that are made."""

from oddskept.levelgraph import graph_of
from oddskept.levels import grade_of


def make_script(stock):
    """Return an accepted script with as many throws as the grade and shortest rows, None if the grade is None."""
    # The grade is found faster than all nodes.
    return None if grade_of(stock) is None else script_of(graph_of(stock))


def script_of(graph):
    """Return what `make_script` returns, for the graph of the first node of a stock with a number as its grade."""
    places = _places_from_first(graph)
    scripts = {}
    # The level of a child is below that of its place, so children are made first; equal ones are one tuple.
    for number in sorted(places, key=lambda one: graph.levels[one]):
        row, end = places[number]
        children = [(graph.nodes[single][1][0], scripts[single]) for single in graph.singles[end]]
        scripts[number] = (row, tuple(children))
    return scripts[0]


def _places_from_first(graph):
    """Return, for each node of a pair that the script needs, its row and the number of the node behind it."""
    places = {}
    waiting = [0]
    while waiting:
        number = waiting.pop()
        if number not in places:
            row, end = _row_ahead(graph, number)
            places[number] = (row, end)
            waiting.extend(graph.singles[end])
    return places


def _row_ahead(graph, number):
    """Return a shortest row to a node that gives a node its level, and the number of that node."""
    row = []
    while graph.nearer[number] is not None:
        move, number = graph.nearer[number]
        row.append(move)
    return tuple(row), number
