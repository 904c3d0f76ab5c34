"""Which lines must be fused for a wished grade."""

from oddskept.borders import border, subsets_of
from oddskept.errors import BadBook, Unfit
from oddskept.fusing import fuse
from oddskept.levels import grade_of
from oddskept.stocks import Stock
from oddskept.variants import has_spot

MOST_CANDIDATES = 8


def find_mends(stock, candidates, *, wish):
    """Return the least good and the greatest bad sets of lines to fuse."""
    code = stock.code
    if len(candidates) > MOST_CANDIDATES or len(set(candidates)) < len(candidates):
        raise Unfit("there are more than eight candidates, or two are equal")
    if not all([_may_be_fused(code, deed, line) for deed, line in candidates]):
        raise Unfit("a candidate is no line that can be fused")
    fused = {spots: _fused(code, spots) for spots in subsets_of(sorted(candidates))}
    allowed = [spots for spots, book in fused.items() if book is not None]
    return border(allowed, lambda spots: meets(grade_of(Stock(fused[spots], stock.plain)), wish))


def meets(grade, wish):
    """Tell whether a grade meets a wish, None counting above every number."""
    return grade is None or (wish is not None and grade >= wish)


def _may_be_fused(code, deed, line):
    """Tell whether a line is there, is no answer and is not fused."""
    if not has_spot(code, deed, line):
        return False
    instruction, fused = code.lines_of(deed)[line]
    return instruction[0] != "answer" and not fused


def _fused(code, spots):
    """Return the code book in which the lines of the spots are fused, None if it is refused."""
    try:
        return fuse(code, spots)
    except BadBook:
        return None
