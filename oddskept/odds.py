"""The odds of plans."""

from oddskept.plans import outcomes
from oddskept.shares import Share


def plan_odds(hall, plan, goal):
    """Return the sum of the chances of the runs of a plan whose prints begin with the goal."""
    wanted = tuple(goal)
    odds = Share(0)
    for run in outcomes(hall, plan):
        if run.prints[:len(wanted)] == wanted:
            odds = odds + run.chance
    return odds
