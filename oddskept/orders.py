"""Orders: plain runs whose begins and ends are the begins and answers of a row of moves."""

from oddskept.changes import with_item
from oddskept.coderun import ANSWER, BEGIN, STEP
from oddskept.nodes import first_node
from oddskept.plainrun import ASKED, DONE, goals_of_takes, options_at, takes_of
from oddskept.posts import front_behind
from oddskept.stocks import first_plain
from oddskept.web import Web

KINDS = {"begin": BEGIN, "end": ANSWER}


def ordered(stock, row):
    """Return an order of a row of moves, None if there is none."""
    fronts = [[first_plain(stock)]]
    for move in row:
        fronts.append(front_behind(stock, fronts[-1], move))
    if not fronts[-1]:
        return None
    # Each member of a front is in the post of a member of the front before it.
    state = fronts[-1][0]
    pieces = []
    for index in reversed(range(len(row))):
        state, piece = _piece_behind(stock, fronts[index], row[index], state)
        pieces.append(piece)
    return [entry for piece in reversed(pieces) for entry in piece]


def _piece_behind(stock, states, move, goal):
    """Return one of the states, and the entries of an order that lead from it along the move to the goal."""
    kind, port, value = move
    if kind == STEP:
        return goal, []
    number, marks = goal
    if kind == BEGIN:
        return (number, with_item(marks, port, ())), [("begin", port, value)]
    state, takes = takes_to(stock, states, port, (number, with_item(marks, port, (DONE, value))))
    return state, [("take", *take) for take in takes] + [("end", port, value)]


def takes_to(stock, states, port, goal):
    """Return one of the states, and the list of takes that lead from it to the goal.

    The port is asked or done in the states and done in the goal. If it is not done at first, its take is the last one.
    """
    ways = {state: None for state in states}
    waiting = sorted(ways)
    while goal not in ways:
        state = waiting.pop()
        if state[1][port][0] == ASKED:
            # Takes and their goals are listed in the same order.
            for take, behind in zip(takes_of(stock, state), goals_of_takes(stock, state)):
                if behind not in ways:
                    ways[behind] = (state, take)
                    waiting.append(behind)
    takes = []
    while ways[goal] is not None:
        goal, take = ways[goal]
        takes.append(take)
    return goal, list(reversed(takes))


def judge_order(stock, row, order):
    """Tell whether the entries are an order of the row of moves."""
    visible = [move for move in row if move[0] != STEP]
    state = first_plain(stock)
    met = 0
    for word, port, value in order:
        if word != "take":
            if met == len(visible) or visible[met] != (KINDS[word], port, value):
                return False
            met += 1
        state = _state_behind(stock, state, word, port, value)
        if state is None:
            return False
    return met == len(visible)


def _state_behind(stock, state, word, port, value):
    """Return the plain state behind an entry of an order, None if it is not allowed; a begin has a known item."""
    number, marks = state
    if word == "take":
        options = options_at(stock, state, port)
        if value >= len(options):
            return None
        goal, answer = options[value]
        return (goal, with_item(marks, port, (DONE, answer)))
    if word == "begin":
        mark = (ASKED, *stock.code.ports[port][value])
        return (number, with_item(marks, port, mark)) if marks[port] == () else None
    return (number, with_item(marks, port, ())) if marks[port] == (DONE, value) else None


def unordered(stock):
    """Return a shortest row of moves from the first state that has no order, None if there is none."""
    web = Web(stock)
    start = first_node(stock)
    # For each node the node before it and the move that leads from there; nodes are met breadth-first.
    ways = {start: None}
    waiting = [start]
    at = 0
    while at < len(waiting):
        node = waiting[at]
        if not node[1]:
            return _row_to(ways, node)
        for move, goal in web.nodes_behind(node):
            if goal not in ways:
                ways[goal] = (node, move)
                waiting.append(goal)
        at += 1
    return None


def _row_to(ways, node):
    """Return the row of moves that leads to a node."""
    row = []
    while ways[node] is not None:
        node, move = ways[node]
        row.append(move)
    return tuple(reversed(row))
