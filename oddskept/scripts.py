"""Scripts that are made."""

from oddskept.levelgraph import LevelGraph
from oddskept.nodes import first_node


def make_script(stock):
    """Return an accepted script with as many throws as the grade and shortest rows, None if the grade is None."""
    return script_of(LevelGraph(stock, first_node(stock)))


def script_of(graph):
    """Return what `make_script` returns, for the graph of the first node of the stock."""
    if graph.levels[0] is None:
        return None
    places = _places_from_first(graph)
    scripts = {}
    # The level of a child is below that of its place, so children are made first; equal ones are one tuple.
    for number in sorted(places, key=lambda one: graph.levels[one]):
        row, end = places[number]
        children = [(graph.nodes[single][1][0], scripts[single]) for single in graph.singles[end]]
        scripts[number] = (row, tuple(children))
    return scripts[0]


def _places_from_first(graph):
    """Return, for each node of a pair that the script needs, its row and the number of the node behind it."""
    places = {}
    waiting = [0]
    while waiting:
        number = waiting.pop()
        if number not in places:
            row, end = _row_ahead(graph, number)
            places[number] = (row, end)
            waiting.extend(graph.singles[end])
    return places


def _row_ahead(graph, number):
    """Return a shortest row to a node that gives a node its level, and the number of that node."""
    row = []
    while graph.nearer[number] is not None:
        move, number = graph.nearer[number]
        row.append(move)
    return tuple(row), number
