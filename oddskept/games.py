"""Games that are made out of scripts: the lines of their threads, and the picks that win them over the code.

Thread 0, the *boss*, goes through the places of the script, once for each object. Each port of each object that
the script names has a *caller*, a thread that waits for jobs, and the mail cells *job* and *reply*.
"""

from oddskept.coderun import ANSWER, BEGIN

# Registers of the boss.
SENT = 0
WANTED = 1
FOUND = 2
SIDE = 3

# How many lines of the boss there are for a move of each kind.
LINES = (2, 0, 5)
DONE_LINES = 3


class Game:
    """What a made game has to do with each place of its script, by the index of the place.

    `rows` has the tuples (kind, port, number) of the moves of its row, the number being what the boss sends
    or wants to fetch; `children` the indexes of its children; `starts` its first line, counted from the first
    line for its object, for which there are `length` lines. `jobs` has, for each port that has callers, the most
    jobs that it gets.
    """

    def __init__(self, stock, places, copies):
        self.copies = copies
        self.rows = _told_rows(stock, places)
        self.children = [[] for _ in places]
        for at, (parent, _) in enumerate(places):
            if at > 0:
                self.children[parent].append(at)
        lengths = [sum([LINES[kind] for kind, _, _ in row]) + _lines_behind(len(ones))
                   for row, ones in zip(self.rows, self.children)]
        self.starts = [sum(lengths[:at]) for at in range(len(places))]
        self.length = sum(lengths)
        self.jobs = _most_jobs(places)
        self._callers = {}
        for copy in range(copies):
            for port in self.jobs:
                self._callers[(copy, port)] = 1 + len(self._callers)

    def caller(self, copy, port):
        """Return the number of the thread that calls a port of an object."""
        return self._callers[(copy, port)]

    def job(self, copy, port):
        """Return the mail cell in which a caller finds its jobs."""
        return 2 * (self.caller(copy, port) - 1)

    def reply(self, copy, port):
        """Return the mail cell to which a caller sends its replies."""
        return self.job(copy, port) + 1


def _told_rows(stock, places):
    """Return, for each place, what `Game` tells of the moves of its row."""
    rows = []
    # The jobs that stand for the last begins at the ports, behind the row of each place.
    given = []
    for parent, (row, _) in places:
        jobs = dict(given[parent]) if given else {}
        told = []
        for kind, port, value in row:
            if kind == BEGIN:
                # A job is never 0, because a mail cell with 0 is empty.
                jobs[port] = value + len(stock.code.ports[port])
            # A caller adds its job to the answer, so a reply is never 0, either.
            told.append((kind, port, jobs[port] + (value if kind == ANSWER else 0)))
        rows.append(told)
        given.append(jobs)
    return rows


def _most_jobs(places):
    """Return a dict with the most begins on a path at each port."""
    most = {}
    counts = []
    for parent, (row, _) in places:
        begun = dict(counts[parent]) if counts else {}
        for kind, port, _ in row:
            if kind == BEGIN:
                begun[port] = begun.get(port, 0) + 1
                most[port] = max(most.get(port, 0), begun[port])
        counts.append(begun)
    return most


def _lines_behind(many):
    """Return how many lines of the boss there are behind the row of a place with so many children."""
    return 1 if many < 2 else 3 * many - 1


def threads_of(game):
    """Return the list of the threads of a game."""
    boss = []
    for copy in range(game.copies):
        for at in range(len(game.rows)):
            _add_row(game, copy, at, boss)
            _add_lines_behind(game, copy, at, boss)
    boss.extend([("set", SENT, 1), ("print", SENT), ("stop",)])
    return [boss] + [_caller_lines(game, copy, port) for copy in range(game.copies) for port in game.jobs]


def _caller_lines(game, copy, port):
    """Return the lines of the thread that calls a port of an object.

    They are written out for each job, because a jump back would be one more deed that can come at any time.
    """
    lines = [("fetch", 0, game.job(copy, port)), ("call", 1, copy, port, 0), ("add", 1, 1, 0),
             ("send", 1, game.reply(copy, port))]
    return lines * game.jobs[port] + [("stop",)]


def _add_row(game, copy, at, lines):
    """Append the lines of the boss for the row of a place."""
    for kind, port, number in game.rows[at]:
        if kind == BEGIN:
            lines.extend([("set", SENT, number), ("send", SENT, game.job(copy, port))])
        if kind == ANSWER:
            lines.extend([("fetch", SENT, game.reply(copy, port)), ("set", WANTED, number),
                          ("same", FOUND, SENT, WANTED), ("jump", len(lines) + LINES[ANSWER], FOUND), ("stop",)])


def _add_lines_behind(game, copy, at, lines):
    """Append the lines with which the boss goes on behind the row of a place."""
    first = copy * game.length
    goals = [first + game.starts[child] for child in game.children[at]]
    if not goals:
        goals = [first + game.length]
    if len(goals) > 1:
        lines.append(("throw", SIDE, len(goals)))
    for side, goal in enumerate(goals[:-1]):
        lines.extend([("set", WANTED, side), ("same", FOUND, SIDE, WANTED), ("jump", goal, FOUND)])
    lines.append(("jump", goals[-1]))


def plan_of(game):
    """Return the plan that plays the moves of the script in all objects."""
    plan = (_boss(DONE_LINES - 1), ())
    for copy in reversed(range(game.copies)):
        plans = [plan] * len(game.rows)
        # Children stand behind their parents.
        for at in reversed(range(len(game.rows))):
            plans[at] = _plan_from(game, copy, at, plans, plan)
        plan = plans[0]
    return plan


def _plan_from(game, copy, at, plans, following):
    """Return the plan from a place on; `plans` has those of its children, `following` is that of the next object."""
    picks = _picks_of_row(game, copy, at) + _boss(1)
    goals = [plans[child] for child in game.children[at]]
    if not goals:
        goals = [following]
    if len(goals) == 1:
        return _behind(picks, goals[0])
    branches = [_behind(_boss(3 * side + 3), goal) for side, goal in enumerate(goals[:-1])]
    branches.append(_behind(_boss(3 * len(goals) - 2), goals[-1]))
    return (picks, tuple(branches))


def _picks_of_row(game, copy, at):
    """Return the picks of the boss and of the callers for the row of a place."""
    picks = ()
    for kind, port, _ in game.rows[at]:
        caller = (game.caller(copy, port), 0)
        if kind == BEGIN:
            picks = picks + _boss(2) + (caller,) * 2
        elif kind == ANSWER:
            picks = picks + (caller,) * 3 + _boss(4)
        else:
            picks = picks + (caller,)
    return picks


def _boss(many):
    """Return so many picks of the boss."""
    return ((0, 0),) * many


def _behind(picks, plan):
    """Return a plan with these picks ahead of it."""
    return (picks + plan[0], plan[1])
