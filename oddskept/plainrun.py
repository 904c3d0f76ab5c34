"""Takes: the moments at which calls of a plain object take effect."""

from oddskept.changes import with_item
from oddskept.errors import BadMove

ASKED = 0
DONE = 1


def takes_of(stock, state):
    """Return the ascending list of the takes (port, choice number) of a plain state."""
    return [(port, choice) for port in range(len(state[1]))
            for choice in range(len(options_at(stock, state, port)))]


def taken(stock, state, port, choice):
    """Return the plain state behind a take."""
    if (port, choice) not in takes_of(stock, state):
        raise BadMove(0)
    goal, answer = options_at(stock, state, port)[choice]
    return (goal, with_item(state[1], port, (DONE, answer)))


def reach(stock, state):
    """Return the ascending list of the plain states reached by takes, the state itself among them."""
    return reach_all(stock, [state])


def reach_all(stock, states):
    """Return the ascending list of the plain states reached by takes from the states, these among them."""
    seen = set(states)
    waiting = sorted(set(states))
    while waiting:
        state = waiting.pop()
        for goal in goals_of_takes(stock, state):
            if goal not in seen:
                seen.add(goal)
                waiting.append(goal)
    return sorted(seen)


def goals_of_takes(stock, state):
    """Return the list of the plain states to which the takes of a plain state lead."""
    marks = state[1]
    return [(goal, with_item(marks, port, (DONE, answer))) for port in range(len(marks))
            for goal, answer in options_at(stock, state, port)]


def options_at(stock, state, port):
    """Return the list of the options of the call at a port, [] if the port is not asked."""
    number, marks = state
    if marks[port] == () or marks[port][0] != ASKED:
        return []
    _, deed, argument = marks[port]
    return stock.plain.options(deed, number, argument)
