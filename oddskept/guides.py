"""Guides: what a paper of a stock tells of the plain object while the code makes its moves."""

from oddskept.pieces import piece_to, pieces_to
from oddskept.web import Web


class TableGuide:
    """Follows rows of moves by an accepted table."""

    def __init__(self, stock, table):
        self._stock = stock
        self._web = Web(stock)
        self._listed = {pair: True for pair in table}

    def pieces_along(self, pair, row, thrown, falls):
        """Return the pieces for the moves of a row from a listed pair, and the plain state behind the row.

        How many coins have been thrown, and whether one falls behind the row, is nothing to a table.
        """
        pieces = []
        for move in row:
            pair, piece = self.followed(pair, move)
            pieces.append(piece)
        return pieces, pair[1]

    def followed(self, pair, move):
        """Return a listed pair to which a move leads from a listed pair, and the piece that leads there."""
        state, plain = pair
        goal = _goal_of(self._web, state, move)
        behind = [one for one in self._web.post_from(plain, move) if (goal, one) in self._listed][0]
        _, piece = piece_to(self._stock, [plain], move, behind)
        return (goal, behind), piece


class LadderGuide:
    """Follows rows of moves by the last lists of an accepted ladder, one for each coin and one more."""

    def __init__(self, stock, ladder, throws):
        self._stock = stock
        self._web = Web(stock)
        self._lists = [{node: True for node in nodes} for nodes in reversed(ladder[len(ladder) - 1 - throws:])]

    def pieces_along(self, pair, row, thrown, falls):
        """Return the pieces for the moves of a row from a pair, and the plain state behind the row.

        The node of the pair is in the list that belongs to so many thrown coins. If a coin falls behind the row,
        the node of the pair there is in the list one lower.
        """
        state, plain = pair
        fronts = [(plain,)]
        for move in row:
            state = _goal_of(self._web, state, move)
            fronts.append(self._web.members_behind(fronts[-1], move))
        chosen = fronts[-1][0]
        if falls:
            chosen = [one for one in fronts[-1] if (state, (one,)) in self._lists[thrown + 1]][0]
        return pieces_to(self._stock, fronts, row, chosen), chosen


def _goal_of(web, state, move):
    """Return the code state to which a move leads that is one of the moves of the state."""
    return [goal for known, goal in web.leads_of(state) if known == move][0]
