"""The words of the document about takes, posts, fronts and pairs, followed as they stand."""

from oddskept.coderun import after, first_state, moves_of
from oddskept.stocks import first_plain


def takes(stock, state):
    """All (port, choice number, plain state behind it) of a plain state."""
    number, marks = state
    found = []
    for port, mark in enumerate(marks):
        if len(mark) == 3:
            options = [choice[3:] for choice in stock.plain.choices if choice[:3] == (mark[1], number, mark[2])]
            for choice, (goal, answer) in enumerate(options):
                behind = list(marks)
                behind[port] = (1, answer)
                found.append((port, choice, (goal, tuple(behind))))
    return found


def reached(stock, state):
    """The set of the plain states that sequences of zero or more takes lead to."""
    found = {state}
    for _, _, behind in takes(stock, state):
        found |= reached(stock, behind)
    return found


def with_mark(state, port, mark):
    marks = list(state[1])
    marks[port] = mark
    return (state[0], tuple(marks))


def post(stock, state, move):
    """The set of the plain states of a post."""
    kind, port, value = move
    if kind == 0:
        deed, argument = stock.code.ports[port][value]
        return {with_mark(state, port, (0, deed, argument))} if state[1][port] == () else set()
    if kind == 1:
        return {state}
    return {with_mark(one, port, ()) for one in reached(stock, state) if one[1][port] == (1, value)}


def post_all(stock, states, move):
    return set().union(*[post(stock, state, move) for state in states])


def front(stock, states):
    """The set of the plain states of a front."""
    return {state for state in states
            if not any(state != other and state in reached(stock, other) for other in states)}


def node_behind(stock, node, move):
    return (after(stock.code, node[0], move), tuple(sorted(front(stock, post_all(stock, node[1], move)))))


def pairs(stock):
    """The set of the reachable pairs: all nodes are followed, those with several members, too."""
    waiting = [(first_state(stock.code), (first_plain(stock),))]
    nodes = set(waiting)
    while waiting:
        node = waiting.pop()
        behind = [node_behind(stock, node, move) for move in moves_of(stock.code, node[0])]
        behind += [(node[0], (member,)) for member in node[1]]
        for one in behind:
            if one not in nodes:
                nodes.add(one)
                waiting.append(one)
    return {(state, member) for state, members in nodes for member in members}


def ends_of_runs(stock, state, row):
    """The last states of all plain runs whose begins and ends are those of the row, in order."""
    visible = [move for move in row if move[0] != 1]
    found = set()
    waiting = [(state, 0)]
    seen = set(waiting)
    while waiting:
        state, at = waiting.pop()
        if at == len(visible):
            found.add(state)
        goals = [(behind, at) for _, _, behind in takes(stock, state)]
        if at < len(visible):
            kind, port, value = visible[at]
            if kind == 0 and state[1][port] == ():
                goals.append((with_mark(state, port, (0, *stock.code.ports[port][value])), at + 1))
            if kind == 2 and state[1][port] == (1, value):
                goals.append((with_mark(state, port, ()), at + 1))
        for goal in goals:
            if goal not in seen:
                seen.add(goal)
                waiting.append(goal)
    return found
