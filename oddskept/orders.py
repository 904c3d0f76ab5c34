"""Orders: plain runs whose begins and ends are the begins and answers of a row of moves."""

from oddskept.changes import with_item
from oddskept.coderun import ANSWER, BEGIN, STEP
from oddskept.nodes import first_node
from oddskept.pieces import pieces_to
from oddskept.plainrun import ASKED, DONE, options_at
from oddskept.posts import front_behind
from oddskept.stocks import first_plain
from oddskept.web import Web

KINDS = {"begin": BEGIN, "end": ANSWER}


def ordered(stock, row):
    """Return an order of a row of moves, None if there is none."""
    fronts = [[first_plain(stock)]]
    for move in row:
        fronts.append(front_behind(stock, fronts[-1], move))
    if not fronts[-1]:
        return None
    return [entry for piece in pieces_to(stock, fronts, row, fronts[-1][0]) for entry in piece]


def judge_order(stock, row, order):
    """Tell whether the entries are an order of the row of moves."""
    visible = [move for move in row if move[0] != STEP]
    state = first_plain(stock)
    met = 0
    for word, port, value in order:
        if word != "take":
            if met == len(visible) or visible[met] != (KINDS[word], port, value):
                return False
            met += 1
        state = _state_behind(stock, state, word, port, value)
        if state is None:
            return False
    return met == len(visible)


def _state_behind(stock, state, word, port, value):
    """Return the plain state behind an entry of an order, None if it is not allowed; a begin has a known item."""
    number, marks = state
    if word == "take":
        options = options_at(stock, state, port)
        if value >= len(options):
            return None
        goal, answer = options[value]
        return (goal, with_item(marks, port, (DONE, answer)))
    if word == "begin":
        mark = (ASKED, *stock.code.ports[port][value])
        return (number, with_item(marks, port, mark)) if marks[port] == () else None
    return (number, with_item(marks, port, ())) if marks[port] == (DONE, value) else None


def unordered(stock):
    """Return a shortest row of moves from the first state that has no order, None if there is none."""
    web = Web(stock)
    start = first_node(stock)
    # For each node the node before it and the move that leads from there; nodes are met breadth-first.
    ways = {start: None}
    waiting = [start]
    at = 0
    while at < len(waiting):
        node = waiting[at]
        if not node[1]:
            return _row_to(ways, node)
        for move, goal in web.nodes_behind(node):
            if goal not in ways:
                ways[goal] = (node, move)
                waiting.append(goal)
        at += 1
    return None


def _row_to(ways, node):
    """Return the row of moves that leads to a node."""
    row = []
    while ways[node] is not None:
        node, move = ways[node]
        row.append(move)
    return tuple(reversed(row))
