"""What leads where in a stock if calls begin as late and answer as early as they can.

For the grade it is enough to look at such rows of moves. The later a call begins and the earlier it answers, the
fewer ways the plain object has; and no other port notices a begin, an answer or a step from a quiet line.
"""

from oddskept.coderun import ANSWER, BEGIN, STEP, moves_at, play_move
from oddskept.quiet import quiet_lines
from oddskept.web import Web


class SwiftWeb:
    """The nodes of one stock in which each port is idle, or busy at a line that is neither quiet nor an answer."""

    def __init__(self, stock):
        self._code = stock.code
        self._web = Web(stock)
        self._quiet = {deed: quiet_lines(lines) for deed, lines in stock.code.deeds}
        self._leads = {}

    def nodes_behind(self, node):
        """Return the list of the tuples (begins and answers, node to which a row of moves with them leads)."""
        state, members = node
        nodes = []
        for visible, goal in self._leads_of(state):
            behind = members
            for move in visible:
                behind = self._web.members_behind(behind, move)
            nodes.append((visible, (goal, behind)))
        return nodes

    def _leads_of(self, state):
        """Return the list of the tuples (begins and answers, code state behind them), each for one port."""
        if state not in self._leads:
            leads = [self._lead_from(state, move) for port in range(len(self._code.ports))
                     for move in moves_at(self._code, state, port)]
            self._leads[state] = [lead for lead in leads if lead is not None]
        return self._leads[state]

    def _lead_from(self, state, move):
        """Return the begins and answers of a row that begins with a move, and the state behind the row.

        It is None if a call would begin that cannot do more now.
        """
        kind, port, _ = move
        visible = []
        state = play_move(self._code, state, move)
        if kind == BEGIN:
            visible.append(move)
            state = self._behind_quiet_lines(state, port)
            following = moves_at(self._code, state, port)
            if not following:
                return None
            if following[0][0] == STEP:
                state = play_move(self._code, state, following[0])
        state = self._behind_quiet_lines(state, port)
        for following in moves_at(self._code, state, port):
            if following[0] == ANSWER:
                visible.append(following)
                state = play_move(self._code, state, following)
        return tuple(visible), state

    def _behind_quiet_lines(self, state, port):
        """Return the state in which the call of a port is at no quiet line any more."""
        deed, line, _ = state[2][port]
        while line in self._quiet[deed]:
            state = play_move(self._code, state, (STEP, port, 0))
            _, line, _ = state[2][port]
        return state
