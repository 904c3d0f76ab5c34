"""The graph of the nodes that are reached from one node, with the dead levels of its pairs.

From a node (c, F) one gets to the nodes behind the moves of c, and to the nodes (c, (t,)) of the members t,
its *singles*. The level of a node is 0 if a row of moves leads to a node without members; otherwise it is
m + 1 for the least m such that a row leads to a node whose singles have at most the level m; None if there
is none. So the level of the node of a pair is the dead level of the pair.
"""

from oddskept.nodes import first_node
from oddskept.web import Web


def graph_of(stock):
    """Return the graph of the first node of a stock."""
    return LevelGraph(Web(stock), first_node(stock))


class LevelGraph:
    """The nodes to which a web leads from a node, which has number 0, and what was found out about them.

    `leads` has for each node the list of its (move, number of the node behind it), `singles` the list of the
    numbers of the nodes of its members, `levels` its level. `nearer` has the first (move, number) of a
    shortest row to a node that gives it its level, None if that is the node itself.
    """

    def __init__(self, web, node):
        self.nodes = [node]
        self.leads = []
        self.singles = []
        self._numbers = {node: 0}
        while len(self.leads) < len(self.nodes):
            state, members = self.nodes[len(self.leads)]
            # Behind a node without members there are only such nodes, of which nothing is asked.
            behind = web.nodes_behind((state, members)) if members else []
            self.leads.append([(move, self._number_of(goal)) for move, goal in behind])
            self.singles.append([self._number_of((state, (member,))) for member in members])
        self.levels = [None] * len(self.nodes)
        self.nearer = [None] * len(self.nodes)
        self._find_levels()

    def _number_of(self, node):
        """Return the number of a node, which gets the next one if it has none yet."""
        if node not in self._numbers:
            self._numbers[node] = len(self.nodes)
            self.nodes.append(node)
        return self._numbers[node]

    def is_single(self, number):
        """Tell whether a node is the node of a pair."""
        return len(self.nodes[number][1]) == 1

    def lasting_single(self, number):
        """Return the number of the single with the greatest level, None counting above every number."""
        return max(self.singles[number], key=lambda one: (self.levels[one] is None, self.levels[one] or 0))

    def _find_levels(self):
        """Find the levels one after the other, each from the nodes whose members are dead below it."""
        backs = self._backs()
        holders = [[] for _ in self.nodes]
        for number, singles in enumerate(self.singles):
            for single in singles:
                holders[single].append(number)
        lasting = [len(singles) for singles in self.singles]
        ends = [number for number, many in enumerate(lasting) if many == 0]
        level = 0
        while ends:
            found = self._spread(backs, ends, level)
            ends = []
            for number in found:
                for holder in holders[number]:
                    lasting[holder] -= 1
                    if lasting[holder] == 0 and self.levels[holder] is None:
                        ends.append(holder)
            level += 1

    def _backs(self):
        """Return, for each node, the list of the (move, number) of the nodes that lead to it."""
        backs = [[] for _ in self.nodes]
        for number, leads in enumerate(self.leads):
            for move, goal in leads:
                backs[goal].append((move, number))
        return backs

    def _spread(self, backs, ends, level):
        """Give the level to the ends and to all nodes without one that lead to them; return the numbers of these.

        Nodes are met breadth-first from the ends, so the way that each one is met by is a shortest one.
        """
        found = list(ends)
        for number in ends:
            self.levels[number] = level
        at = 0
        while at < len(found):
            goal = found[at]
            for move, number in backs[goal]:
                if self.levels[number] is None:
                    self.levels[number] = level
                    self.nearer[number] = (move, goal)
                    found.append(number)
            at += 1
        return found
