"""Tables and ladders that are made."""

from oddskept.levelgraph import graph_of
from oddskept.levels import grade_of


def make_table(stock):
    """Return an accepted table of reachable pairs, None if the grade is a number."""
    # The grade is found faster than all nodes.
    return table_of(graph_of(stock)) if grade_of(stock) is None else None


def make_ladder(stock, height):
    """Return an accepted ladder of this height, None if the grade is a number that is at most the height."""
    grade = grade_of(stock)
    return ladder_of(graph_of(stock), height) if grade is None or grade > height else None


def table_of(graph):
    """Return what `make_table` returns, for the graph of the first node of a stock with the grade None."""
    # A pair that is never dead has, behind each move, a member with which it is never dead.
    numbers = _closed([0], lambda number: [graph.lasting_single(goal) for _, goal in graph.leads[number]])
    return tuple([(state, members[0]) for state, members in [graph.nodes[number] for number in numbers]])


def ladder_of(graph, height):
    """Return what `make_ladder` returns, for the graph of the first node of a stock with a grade above the height."""
    numbers = []
    chosen = [0]
    lists = []
    while len(lists) <= height:
        above = len(numbers)
        numbers = _closed(chosen, lambda number: [goal for _, goal in graph.leads[number]])
        if len(lists) > 1 and len(numbers) == above:
            # Below the last list each list holds the one above it, so from here on they are all the same.
            lists.extend([lists[-1]] * (height + 1 - len(lists)))
        else:
            lists.append(tuple([graph.nodes[number] for number in numbers]))
            chosen = [graph.lasting_single(number) for number in numbers]
    return tuple(reversed(lists))


def _closed(starts, follow):
    """Return the list of the numbers to which the starts lead, these among them, each once."""
    numbers = []
    seen = set()
    waiting = list(starts)
    while waiting:
        number = waiting.pop()
        if number not in seen:
            seen.add(number)
            numbers.append(number)
            waiting.extend(follow(number))
    return numbers
