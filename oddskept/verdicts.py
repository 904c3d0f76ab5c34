"""Verdicts: what the grade of a stock is, with the papers that show it."""

from oddskept.judges import judge_ladder, judge_script, judge_table, script_throws, script_worth
from oddskept.levelgraph import graph_of
from oddskept.scripts import script_of
from oddskept.tables import ladder_of, table_of


class Verdict:
    """A grade, the paper that it is not less, the paper that it is not greater, and the worth of the latter."""

    def __init__(self, grade, low, high, worth):
        self.grade = grade
        self.low = low
        self.high = high
        self.worth = worth


def make_verdict(stock):
    """Return an accepted verdict."""
    graph = graph_of(stock)
    grade = graph.levels[0]
    if grade is None:
        return Verdict(None, table_of(graph), None, None)
    low = ladder_of(graph, grade - 1) if grade > 0 else None
    script = script_of(graph)
    return Verdict(grade, low, script, script_worth(stock, script))


def judge_verdict(stock, verdict):
    """Tell whether a verdict is accepted."""
    if not _has_its_papers(verdict):
        return False
    if verdict.grade is None:
        return judge_table(stock, verdict.low)
    if verdict.grade > 0 and (len(verdict.low) != verdict.grade or not judge_ladder(stock, verdict.low)):
        return False
    if not judge_script(stock, verdict.high) or script_throws(verdict.high) > verdict.grade:
        return False
    return verdict.worth == script_worth(stock, verdict.high)


def _has_its_papers(verdict):
    """Tell whether exactly those fields of a verdict are None that its grade asks for."""
    if verdict.grade is None:
        return verdict.low is not None and verdict.high is None and verdict.worth is None
    if verdict.grade < 0 or verdict.high is None or verdict.worth is None:
        return False
    return (verdict.low is None) == (verdict.grade == 0)
