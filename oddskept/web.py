"""What leads where in one stock."""

from oddskept.coderun import moves_of, play_move
from oddskept.posts import front_behind, front_of, post


class Web:
    """What the code states and the plain states of one stock lead to, each worked out once."""

    def __init__(self, stock):
        self._stock = stock
        self._leads = {}
        self._posts = {}
        self._fronts = {}
        self._members = {}

    def leads_of(self, state):
        """Return the list of the tuples (move, code state to which it leads)."""
        if state not in self._leads:
            code = self._stock.code
            self._leads[state] = [(move, play_move(code, state, move)) for move in moves_of(code, state)]
        return self._leads[state]

    def post_from(self, plain, move):
        """Return the post of a plain state along a move."""
        if (plain, move) not in self._posts:
            self._posts[(plain, move)] = post(self._stock, plain, move)
        return self._posts[(plain, move)]

    def front_from(self, plain, move):
        """Return the front of the post of a plain state along a move."""
        if (plain, move) not in self._fronts:
            self._fronts[(plain, move)] = front_behind(self._stock, [plain], move)
        return self._fronts[(plain, move)]

    def members_behind(self, members, move):
        """Return the tuple of the members of the node to which a move leads from one with these members."""
        if (members, move) not in self._members:
            behind = [plain for member in members for plain in self.front_from(member, move)]
            self._members[(members, move)] = tuple(front_of(self._stock, behind))
        return self._members[(members, move)]

    def nodes_behind(self, node):
        """Return the list of the tuples (move, node to which it leads)."""
        state, members = node
        return [(move, (goal, self.members_behind(members, move))) for move, goal in self.leads_of(state)]
