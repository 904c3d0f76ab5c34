"""Plain books: what a plain object can do."""

from oddskept.errors import BadBook
from oddskept.words import is_name

MOST_STATES = 600
MOST_OPTIONS = 4
VALUES = 8


class PlainBook:
    """The states and the choices of a plain object."""

    def __init__(self, states, first, choices):
        self.states = states
        self.first = first
        self.choices = tuple([tuple(choice) for choice in choices])
        if not 1 <= states <= MOST_STATES or not 0 <= first < states:
            raise BadBook("the number of states or the first state is out of range")
        if not all([_is_sound(choice, states) for choice in self.choices]):
            raise BadBook("a choice is out of range")
        self._table = _grouped(self.choices)
        self._single = all([len(options) == 1 for options in self._table.values()])

    def options(self, deed, state, argument):
        """Return the list of the pairs (next state, answer) that the object may choose from."""
        return list(self._table.get((deed, state, argument), ()))

    @property
    def deterministic(self):
        """Tell whether the object never has a choice."""
        return self._single


def _is_sound(choice, states):
    """Tell whether a choice keeps to the ranges."""
    deed, state, argument, goal, answer = choice
    if not is_name(deed):
        return False
    return 0 <= state < states and 0 <= goal < states and 0 <= argument < VALUES and 0 <= answer < VALUES


def _grouped(choices):
    """Return the options by deed, state and argument; refuse equal choices and too many options."""
    table = {}
    for deed, state, argument, goal, answer in choices:
        options = table.setdefault((deed, state, argument), [])
        if (goal, answer) in options:
            raise BadBook("a choice is there twice")
        if len(options) == MOST_OPTIONS:
            raise BadBook("there are too many options")
        options.append((goal, answer))
    return table
