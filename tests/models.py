"""The words of the document about takes, posts, fronts, pairs, papers and standings, followed as they stand."""

from fractions import Fraction

from oddskept.coderun import after, first_state, moves_of
from oddskept.hall import first_position, picks_at
from oddskept.picking import coin_sides, play_pick
from oddskept.stocks import first_plain


def takes(stock, state):
    """All (port, choice number, plain state behind it) of a plain state."""
    number, marks = state
    found = []
    for port, mark in enumerate(marks):
        if len(mark) == 3:
            options = [choice[3:] for choice in stock.plain.choices if choice[:3] == (mark[1], number, mark[2])]
            for choice, (goal, answer) in enumerate(options):
                behind = list(marks)
                behind[port] = (1, answer)
                found.append((port, choice, (goal, tuple(behind))))
    return found


def reached(stock, state):
    """The set of the plain states that sequences of zero or more takes lead to."""
    found = {state}
    for _, _, behind in takes(stock, state):
        found |= reached(stock, behind)
    return found


def with_mark(state, port, mark):
    marks = list(state[1])
    marks[port] = mark
    return (state[0], tuple(marks))


def post(stock, state, move):
    """The set of the plain states of a post."""
    kind, port, value = move
    if kind == 0:
        deed, argument = stock.code.ports[port][value]
        return {with_mark(state, port, (0, deed, argument))} if state[1][port] == () else set()
    if kind == 1:
        return {state}
    return {with_mark(one, port, ()) for one in reached(stock, state) if one[1][port] == (1, value)}


def post_all(stock, states, move):
    return set().union(*[post(stock, state, move) for state in states])


def front(stock, states):
    """The set of the plain states of a front."""
    return {state for state in states
            if not any(state != other and state in reached(stock, other) for other in states)}


def node_behind(stock, node, move):
    return (after(stock.code, node[0], move), tuple(sorted(front(stock, post_all(stock, node[1], move)))))


def pairs(stock):
    """The set of the reachable pairs: all nodes are followed, those with several members, too."""
    waiting = [(first_state(stock.code), (first_plain(stock),))]
    nodes = set(waiting)
    while waiting:
        node = waiting.pop()
        behind = [node_behind(stock, node, move) for move in moves_of(stock.code, node[0])]
        behind += [(node[0], (member,)) for member in node[1]]
        for one in behind:
            if one not in nodes:
                nodes.add(one)
                waiting.append(one)
    return {(state, member) for state, members in nodes for member in members}


def ends_of_runs(stock, state, row):
    """The last states of all plain runs whose begins and ends are those of the row, in order."""
    visible = [move for move in row if move[0] != 1]
    found = set()
    waiting = [(state, 0)]
    seen = set(waiting)
    while waiting:
        state, at = waiting.pop()
        if at == len(visible):
            found.add(state)
        goals = [(behind, at) for _, _, behind in takes(stock, state)]
        if at < len(visible):
            kind, port, value = visible[at]
            if kind == 0 and state[1][port] == ():
                goals.append((with_mark(state, port, (0, *stock.code.ports[port][value])), at + 1))
            if kind == 2 and state[1][port] == (1, value):
                goals.append((with_mark(state, port, ()), at + 1))
        for goal in goals:
            if goal not in seen:
                seen.add(goal)
                waiting.append(goal)
    return found


def sets_from(stock, pair):
    """All (code state, post) to which rows of moves lead from a pair, each with a shortest number of moves."""
    start = (pair[0], frozenset([pair[1]]))
    found = {start: 0}
    waiting = [start]
    for state, plains in waiting:
        for move in moves_of(stock.code, state):
            goal = (after(stock.code, state, move), frozenset(post_all(stock, plains, move)))
            if goal not in found:
                found[goal] = found[state, plains] + 1
                waiting.append(goal)
    return found


def all_sets(stock, pair):
    """The sets from a pair, and from each pair of which these ask, by their pairs."""
    found = {}
    waiting = [pair]
    while waiting:
        one = waiting.pop()
        if one not in found:
            found[one] = sets_from(stock, one)
            waiting += [(state, plain) for state, plains in found[one] for plain in plains]
    return found


def dead_levels(stock, pair):
    """The dead level of a pair and of each pair that is asked of for it, as point 28 words it: posts, not fronts."""
    sets = all_sets(stock, pair)
    levels = dict.fromkeys(sets)
    level = 0
    while True:
        dead = {one for one in levels if levels[one] is not None}
        new = [one for one in sets if one not in dead
               and any(all((state, plain) in dead for plain in plains) for state, plains in sets[one])]
        for one in new:
            levels[one] = level
        if not new:
            return levels
        level += 1


def table_is_accepted(stock, table):
    if (first_state(stock.code), first_plain(stock)) not in table:
        return False
    return all(any((after(stock.code, state, move), goal) in table for goal in post(stock, plain, move))
               for state, plain in table for move in moves_of(stock.code, state))


def ladder_is_accepted(stock, ladder):
    if not ladder or (first_state(stock.code), (first_plain(stock),)) not in ladder[-1]:
        return False
    for height, nodes in enumerate(ladder):
        for node in nodes:
            if not node[1]:
                return False
            if not all(node_behind(stock, node, move) in nodes for move in moves_of(stock.code, node[0])):
                return False
            if height and not any((node[0], (member,)) in ladder[height - 1] for member in node[1]):
                return False
    return True


def script_is_accepted(stock, script, pair=None):
    state, plain = pair or (first_state(stock.code), first_plain(stock))
    row, children = script
    plains = {plain}
    for move in row:
        if move not in moves_of(stock.code, state):
            return False
        state, plains = after(stock.code, state, move), post_all(stock, plains, move)
    if [member for member, _ in children] != sorted(front(stock, plains)):
        return False
    return all(script_is_accepted(stock, child, (state, member)) for member, child in children)


def throws(script):
    _, children = script
    if len(children) < 2:
        return max([throws(child) for _, child in children], default=0)
    return 1 + max(throws(child) for _, child in children)


def worth(stock, script, plain=None):
    """The worth as a Fraction, over the whole post."""
    row, children = script
    plains = {first_plain(stock) if plain is None else plain}
    for move in row:
        plains = post_all(stock, plains, move)
    if not children:
        return Fraction(1 if plains else 0)
    means = [sum(worth(stock, child, one) for _, child in children) / len(children) for one in plains]
    return max(means, default=Fraction(0))


def standings_from(hall, goal, standing):
    """The (pick, list of the standings behind its sides) of a standing, as point 42 words it; [] for a lost goal."""
    position, count = standing
    found = []
    for pick in picks_at(hall, position) if count < len(goal) else []:
        sides = coin_sides(hall, position, pick)
        behind = []
        for side in range(max(1, sides)):
            goal_position, event = play_pick(hall, position, pick, side)
            if event is not None and event[2] == "print":
                if event[3] == goal[count]:
                    behind.append((goal_position, count + 1))
            else:
                behind.append((goal_position, count))
        found.append((pick, behind))
    return found


def reached_standings(hall, goal):
    """The reached standings, with what leads from them."""
    start = (first_position(hall), 0)
    found = {start: standings_from(hall, goal, start)}
    waiting = [start]
    for standing in waiting:
        for _, behind in found[standing]:
            for one in behind:
                if one not in found:
                    found[one] = standings_from(hall, goal, one)
                    waiting.append(one)
    return found


def best_odds(hall, goal):
    """The best odds from each reached standing, as Fractions: from 0 on they rise until nothing changes."""
    leads = reached_standings(hall, goal)
    odds = {one: Fraction(int(one[1] == len(goal))) for one in leads}
    changed = True
    while changed:
        changed = False
        for one in reversed(list(leads)):
            for _, behind in leads[one]:
                told = sum(odds[other] for other in behind) / max(1, len(behind))
                if told > odds[one]:
                    odds[one] = told
                    changed = True
    return odds
