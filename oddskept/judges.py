"""Judges: they accept or refuse papers about the grade of a stock, without a search."""

from oddskept.nodes import first_node
from oddskept.places import most_on_a_path, places_of
from oddskept.shares import Share, greatest, mean
from oddskept.stocks import first_plain
from oddskept.web import Web


def judge_table(stock, table):
    """Tell whether a table is accepted, which shows that the grade is None."""
    web = Web(stock)
    state, members = first_node(stock)
    listed = {pair: True for pair in table}
    if (state, members[0]) not in listed:
        return False
    return all([_is_followed(web, pair, listed) for pair in table])


def _is_followed(web, pair, listed):
    """Tell whether each move of the code state of a pair leads to a listed pair."""
    state, plain = pair
    for move, goal in web.leads_of(state):
        if not any([(goal, behind) in listed for behind in web.post_from(plain, move)]):
            return False
    return True


def judge_ladder(stock, ladder):
    """Tell whether a ladder is accepted, which shows that the grade is above its height."""
    if not ladder or first_node(stock) not in ladder[-1]:
        return False
    web = Web(stock)
    for height, nodes in enumerate(ladder):
        # What holds of two equal lists, one above the other, holds of a third one upon them.
        if height < 2 or nodes != ladder[height - 1] or nodes != ladder[height - 2]:
            if not _is_closed(web, nodes):
                return False
            if height > 0 and not _stands_upon(nodes, ladder[height - 1]):
                return False
    return True


def _is_closed(web, nodes):
    """Tell whether all nodes of a list have members, and all moves lead to nodes of the list."""
    listed = set(nodes)
    for node in nodes:
        if not node[1] or not all([goal in listed for _, goal in web.nodes_behind(node)]):
            return False
    return True


def _stands_upon(nodes, lower):
    """Tell whether each node has a member whose node is in the lower list."""
    listed = set(lower)
    return all([any([(state, (member,)) in listed for member in members]) for state, members in nodes])


def judge_script(stock, script):
    """Tell whether a script is accepted, which shows that the grade is at most the number of its throws."""
    web = Web(stock)
    waiting = [(script, first_node(stock))]
    while waiting:
        (row, children), node = waiting.pop()
        node = _node_behind(web, node, row)
        if node is None or tuple([member for member, _ in children]) != node[1]:
            return False
        for member, child in children:
            waiting.append((child, (node[0], (member,))))
    return True


def _node_behind(web, node, row):
    """Return the node to which a row of moves leads, None if it is no row of moves from there."""
    state, members = node
    for move in row:
        goals = [goal for known, goal in web.leads_of(state) if known == move]
        if not goals:
            return None
        state, members = goals[0], web.members_behind(members, move)
    return (state, members)


def script_throws(script):
    """Return the greatest number of throws on a path of a script."""
    places = places_of(script)
    return most_on_a_path([parent for parent, _ in places], [len(children) > 1 for _, (_, children) in places])


def script_worth(stock, script):
    """Return the worth of a script at the first plain state."""
    places = places_of(script)
    start = first_plain(stock)
    fronts = _fronts_behind(Web(stock), places, start)
    # For each place the worths of its children at the states behind its row; children stand behind their parents.
    told = [{} for _ in places]
    worths = {}
    for at in reversed(range(len(places))):
        parent, (_, children) = places[at]
        means = {plain: mean(shares) for plain, shares in told[at].items()}
        worths = {plain: greatest([means[one] if children else Share(1) for one in behind])
                  for plain, behind in fronts[at].items()}
        for plain, worth in worths.items():
            told[parent].setdefault(plain, []).append(worth)
    return worths[start]


def _fronts_behind(web, places, start):
    """Return, for each place, the fronts behind its row, by the plain states of which its worth is asked."""
    fronts = []
    for parent, (row, _) in places:
        asked = {start: True}
        if fronts:
            asked = {one: True for behind in fronts[parent].values() for one in behind}
        fronts.append({plain: _front_behind_row(web, plain, row) for plain in asked})
    return fronts


def _front_behind_row(web, plain, row):
    """Return the front of the post of a plain state along a row."""
    members = (plain,)
    for move in row:
        members = web.members_behind(members, move)
    return members
