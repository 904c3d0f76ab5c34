"""The best odds from the standings of a graph."""


class Chances:
    """The best odds from each standing of a graph, and what reaches them.

    `tops` has the odds as the tops of shares whose bottom is `bottom`. `chosen` has the tuple (pick, ways)
    with which the odds are reached, with as few throws on a path as possible; it is None if the goal is won or
    cannot be reached. Who follows it meets no standing twice before a coin falls.
    """

    def __init__(self, program, graph):
        self._graph = graph
        self.bottom = _product_of_sides(program)
        self.tops = [0] * len(graph.standings)
        self.chosen = [None] * len(graph.standings)
        self._throws = [0] * len(graph.standings)
        groups = {}
        for number, ahead in enumerate(graph.ahead):
            groups.setdefault(ahead, []).append(number)
        # No pick makes more throws come, and a throw makes them fewer.
        for ahead in sorted(groups):
            self._find_tops(groups[ahead])

    def _find_tops(self, numbers):
        """Find the odds from the standings with these numbers, all those with as many throws ahead."""
        backs = {number: [] for number in numbers}
        found = []
        for number in numbers:
            if self._graph.is_won(self._graph.standings[number]):
                found.append((self.bottom, 0, number, None))
            for lead in self._graph.leads[number]:
                goals = [goal for _, goal in lead[1]]
                if len(goals) == 1 and goals[0] in backs:
                    backs[goals[0]].append((number, lead))
                elif goals:
                    top, throws = self._odds_of(goals)
                    found.append((top, throws, number, lead))
        for top, throws, number, lead in sorted(found, key=lambda one: (-one[0], one[1])):
            self._spread(backs, top, throws, number, lead)

    def _odds_of(self, goals):
        """Return the top of the odds, and the most throws on a path, of what leads to these standings."""
        throws = max([self._throws[goal] for goal in goals])
        if len(goals) > 1:
            throws += 1
        return sum([self.tops[goal] for goal in goals]) // len(goals), throws

    def _spread(self, backs, top, throws, number, lead):
        """Give odds to a standing and to those from which picks lead there, where they are greater."""
        waiting = [(number, lead)]
        at = 0
        while at < len(waiting):
            number, lead = waiting[at]
            if top > self.tops[number]:
                self.tops[number] = top
                self._throws[number] = throws
                self.chosen[number] = lead
                waiting.extend(backs[number])
            at += 1


def _product_of_sides(program):
    """Return the product of the sides of all throw lines; no run does such a line twice."""
    product = 1
    for thread in program.threads:
        for instruction in thread:
            if instruction[0] == "throw":
                product = product * instruction[2]
    return product
