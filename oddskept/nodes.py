"""Nodes and pairs: code states beside the plain states that can go with them."""

from oddskept.coderun import first_state, moves_of, play_move
from oddskept.posts import front_behind
from oddskept.stocks import first_plain
from oddskept.web import Web


def first_pair(stock):
    """Return the pair in which a stock starts."""
    return (first_state(stock.code), first_plain(stock))


def first_node(stock):
    """Return the node in which a stock starts."""
    state, plain = first_pair(stock)
    return (state, (plain,))


def next_nodes(stock, node):
    """Return the list of the tuples (move, node to which it leads), in the order of the moves."""
    state, members = node
    return [(move, (play_move(stock.code, state, move), tuple(front_behind(stock, members, move))))
            for move in moves_of(stock.code, state)]


def pairs_of(stock):
    """Return the ascending list of the reachable pairs.

    It is enough to follow single moves from the nodes of pairs: what is in the front behind
    a row is also in the front behind the last move from some member of the front before it.
    """
    web = Web(stock)
    waiting = [first_pair(stock)]
    seen = set(waiting)
    while waiting:
        state, plain = waiting.pop()
        for move, goal in web.leads_of(state):
            for member in web.front_from(plain, move):
                if (goal, member) not in seen:
                    seen.add((goal, member))
                    waiting.append((goal, member))
    return sorted(seen)
