"""Posts: the plain states that can stand behind moves of the code; and the fronts of lists of them."""

from oddskept.changes import with_item
from oddskept.coderun import ANSWER, BEGIN
from oddskept.plainrun import ASKED, DONE, goals_of_takes, reach_all


def post(stock, state, move):
    """Return the post of a plain state along a move."""
    return post_all(stock, [state], move)


def post_all(stock, states, move):
    """Return the union of the posts of plain states along a move."""
    firsts = _firsts_behind(stock, states, move)
    if move[0] == ANSWER:
        return reach_all(stock, firsts)
    return sorted(set(firsts))


def post_row(stock, states, row):
    """Return the post of plain states along a row of moves."""
    states = sorted(set(states))
    for move in row:
        states = post_all(stock, states, move)
    return states


def front_of(stock, states):
    """Return the plain states that are not reached by takes from another one of them."""
    listed = set(states)
    behind = set()
    waiting = sorted(listed)
    # Each take makes one more port done, so nothing listed lies behind a state with the most done ports.
    most = max([_done_ports(state) for state in states], default=0)
    while waiting:
        state = waiting.pop()
        goals = goals_of_takes(stock, state) if _done_ports(state) < most else []
        for goal in goals:
            if goal not in behind:
                behind.add(goal)
                if goal not in listed:
                    waiting.append(goal)
    return [state for state in sorted(listed) if state not in behind]


def front_behind(stock, states, move):
    """Return the front of the post of plain states along a move."""
    return front_of(stock, _firsts_behind(stock, states, move))


def _done_ports(state):
    """Return the number of the done ports of a plain state."""
    return len([mark for mark in state[1] if mark != () and mark[0] == DONE])


def _firsts_behind(stock, states, move):
    """Return the post along a begin or a step, and along an answer states from which takes lead to all of it."""
    kind, port, value = move
    if kind == BEGIN:
        mark = (ASKED, *stock.code.ports[port][value])
        return [(state[0], with_item(state[1], port, mark)) for state in states if state[1][port] == ()]
    if kind == ANSWER:
        return _firsts_ended(stock, states, port, value)
    return list(states)


def _firsts_ended(stock, states, port, value):
    """Return the states behind the end of a call that takes last of all, or has been done before.

    Takes of other ports that follow the take of this port can as well follow its end.
    """
    ended = []
    seen = set(states)
    waiting = sorted(seen)
    while waiting:
        number, marks = waiting.pop()
        if marks[port] == (DONE, value):
            ended.append((number, with_item(marks, port, ())))
        elif marks[port] != () and marks[port][0] == ASKED:
            for goal in goals_of_takes(stock, (number, marks)):
                if goal not in seen:
                    seen.add(goal)
                    waiting.append(goal)
    return ended
