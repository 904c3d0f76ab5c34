"""Pieces of plain runs: the begins, takes and ends that lead along moves of the code."""

from oddskept.changes import with_item
from oddskept.coderun import BEGIN, STEP
from oddskept.plainrun import DONE, goals_of_takes, takes_of


def pieces_to(stock, fronts, row, goal):
    """Return the list of the pieces, one for each move of a row, that lead to a member of the last front.

    `fronts` has the fronts before the first move and behind each move.
    """
    pieces = []
    for index in reversed(range(len(row))):
        # Each member of a front is in the post of a member of the front before it.
        goal, piece = piece_to(stock, fronts[index], row[index], goal)
        pieces.append(piece)
    return list(reversed(pieces))


def piece_to(stock, states, move, goal):
    """Return one of the states, and the list of the entries that lead from it along a move to the goal.

    The goal is in the post of the states along the move. The entries are those of an order.
    """
    kind, port, value = move
    if kind == STEP:
        return goal, []
    number, marks = goal
    if kind == BEGIN:
        return (number, with_item(marks, port, ())), [("begin", port, value)]
    state, takes = _takes_to(stock, states, (number, with_item(marks, port, (DONE, value))))
    return state, [("take", *take) for take in takes] + [("end", port, value)]


def _takes_to(stock, states, goal):
    """Return one of the states, and the list of takes that lead from it to the goal."""
    ways = {state: None for state in states}
    waiting = sorted(ways)
    while goal not in ways:
        state = waiting.pop()
        # Takes and their goals are listed in the same order.
        for (port, choice), behind in zip(takes_of(stock, state), goals_of_takes(stock, state)):
            if behind[1][port] == goal[1][port] and behind not in ways:
                ways[behind] = (state, (port, choice))
                waiting.append(behind)
    takes = []
    while ways[goal] is not None:
        goal, take = ways[goal]
        takes.append(take)
    return goal, list(reversed(takes))
