"""Programs that tell the code of a stock from its plain object, made out of scripts."""

from oddskept.errors import TooLarge, Unfit
from oddskept.games import Game, plan_of, threads_of
from oddskept.judges import judge_script
from oddskept.places import places_of
from oddskept.progbook import Program

MOST_PLACES = 400
MOST_MOVES = 400
MOST_CHILDREN = 60


def parting(stock, script, *, copies=1):
    """Return a program with so many objects, and a plan by which it prints 1 on every tape over the code."""
    if not judge_script(stock, script):
        raise Unfit("the script is not accepted")
    places = places_of(script)
    if len(places) > MOST_PLACES or sum([len(row) for _, (row, _) in places]) > MOST_MOVES:
        raise TooLarge("the script has too many places or moves")
    if any([len(children) > MOST_CHILDREN for _, (_, children) in places]):
        raise TooLarge("a place of the script has too many children")
    game = Game(stock, places, copies)
    return (Program(2 * copies * len(game.jobs), copies, threads_of(game)), plan_of(game))
