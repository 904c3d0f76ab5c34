"""Plans over code, carried to plain objects."""

from oddskept.coderun import ANSWER, BEGIN, STEP
from oddskept.errors import BadPlan, Unfit
from oddskept.guides import LadderGuide, TableGuide
from oddskept.hall import CODE, first_position
from oddskept.judges import judge_ladder, judge_table
from oddskept.picking import played, sides_of
from oddskept.plans import fits, plan_throws
from oddskept.stocks import first_plain

TABLE = "table"
KINDS = {"begin": BEGIN, "end": ANSWER}


def carry(hall, papers, plan):
    """Return a plan with the same traces for the hall in which the objects with papers are plain."""
    if not fits(hall, plan):
        raise BadPlan("the plan does not fit the hall")
    throws = plan_throws(plan)
    if len(papers) != len(hall.stocks):
        raise Unfit("each object has a paper or None")
    if not all([_is_fit(stock, way, paper, throws) for stock, way, paper in zip(hall.stocks, hall.ways, papers)]):
        raise Unfit("a paper does not fit its object")
    guides = [_guide_of(stock, paper, throws) for stock, paper in zip(hall.stocks, papers)]
    return Carrier(hall, guides).carried(plan)


def _is_fit(stock, way, paper, throws):
    """Tell whether a paper may stand for an object in a plan with so many throws."""
    if paper is None:
        return True
    if way != CODE:
        return False
    kind, told = paper
    if kind == TABLE:
        return judge_table(stock, told)
    return throws < len(told) and judge_ladder(stock, told)


def _guide_of(stock, paper, throws):
    """Return the guide that follows an object by its paper, None if it has none."""
    if paper is None:
        return None
    kind, told = paper
    return TableGuide(stock, told) if kind == TABLE else LadderGuide(stock, told, throws)


def _move_of(port, event):
    """Return the move of a port that a pick with this event has done."""
    return (STEP, port, 0) if event is None else (KINDS[event[2]], port, event[3])


def _callers_in(program):
    """Return the number of the thread that calls, for each object and port that is called."""
    return {(instruction[2], instruction[3]): number for number, thread in enumerate(program.threads)
            for instruction in thread if instruction[0] == "call"}


class Carrier:
    """Carries plans that fit a hall; `guides` has for each object the guide that it follows, or None."""

    def __init__(self, hall, guides):
        self._hall = hall
        self._guides = guides
        self._callers = _callers_in(hall.program)

    def carried(self, plan):
        """Return the plan over the plain objects."""
        starts = tuple([first_plain(stock) for stock in self._hall.stocks])
        # Each plan with the index of the one before it, its position, the plain states there, and the coins thrown.
        places = [(0, plan, first_position(self._hall), starts, 0)]
        picks = []
        while len(picks) < len(places):
            at = len(picks)
            _, (given, branches), position, plains, thrown = places[at]
            deeds, end = self._deeds_of(given, position)
            pieces, plains = self._pieces_of(deeds, position[2], plains, thrown, len(branches) > 0)
            picks.append(self._picks_of(deeds, pieces))
            for side, branch in enumerate(branches):
                goal, _ = played(self._hall, end, given[-1], side)
                places.append((at, branch, goal, plains, thrown + 1))
        return _put_together(picks, [place[0] for place in places])

    def _deeds_of(self, picks, position):
        """Return the list of the tuples (pick, object, move) of the picks of one plan, and the position at their end.

        The object is None if the pick is none of an object with a guide. A coin at the end has not fallen yet.
        """
        deeds = []
        for pick in picks:
            deed = (pick, None, None)
            if sides_of(self._hall, position, pick) == 0:
                instruction = self._hall.program.threads[pick[0]][position[1][pick[0]][0]]
                position, event = played(self._hall, position, pick, 0)
                if instruction[0] == "call" and self._guides[instruction[2]] is not None:
                    deed = (pick, instruction[2], _move_of(instruction[3], event))
            deeds.append(deed)
        return deeds, position

    def _pieces_of(self, deeds, states, plains, thrown, falls):
        """Return, for each object, the pieces for its moves, and the plain states behind them."""
        pieces = []
        behind = []
        for number, guide in enumerate(self._guides):
            told, plain = [], plains[number]
            if guide is not None:
                row = [move for _, one, move in deeds if one == number]
                told, plain = guide.pieces_along((states[number], plain), row, thrown, falls)
            pieces.append(told)
            behind.append(plain)
        return pieces, tuple(behind)

    def _picks_of(self, deeds, pieces):
        """Return the picks that do the deeds, those of objects with a guide by the pieces for their moves."""
        picks = []
        met = [0] * len(pieces)
        for pick, number, _ in deeds:
            if number is None:
                picks.append(pick)
            else:
                for word, port, choice in pieces[number][met[number]]:
                    picks.append((self._callers[(number, port)], choice if word == "take" else 0))
                met[number] += 1
        return tuple(picks)


def _put_together(picks, parents):
    """Return the plan with these picks, for the index of the parent of each place; the first is its own parent."""
    branches = [[] for _ in picks]
    for at in reversed(range(1, len(picks))):
        branches[parents[at]].append((picks[at], tuple(reversed(branches[at]))))
    return (picks[0], tuple(reversed(branches[0])))
