"""Desks: stocks that change by steps, which can be taken back."""

from oddskept.edits import edited
from oddskept.errors import BadEdit
from oddskept.verdicts import make_verdict


class Desk:
    """A stock that changes by steps of edits; done steps can be undone, and undone ones done again."""

    def __init__(self, stock):
        # The stock behind each step, done or undone, ahead of them the first one.
        self._stocks = [stock]
        self._steps = []
        self._done = 0

    @property
    def stock(self):
        """The stock as it stands."""
        return self._stocks[self._done]

    @property
    def steps_done(self):
        """The number of the done steps."""
        return self._done

    @property
    def steps_undone(self):
        """The number of the undone steps."""
        return len(self._steps) - self._done

    def first_stock(self):
        """Return the stock with which the desk was made."""
        return self._stocks[0]

    def all_steps(self):
        """Return the list of the steps, tuples of edits, the done ones first."""
        return list(self._steps)

    def edit(self, edit):
        """Do one edit as a step."""
        self.apply([edit])

    def apply(self, edits):
        """Do the edits of a sequence as one step."""
        step = tuple([tuple(edit) for edit in edits])
        stock = self._stocks[self._done]
        for index, edit in enumerate(step):
            try:
                stock = edited(stock, edit)
            except BadEdit:
                raise BadEdit(index) from None
        if step:
            del self._steps[self._done:]
            self._steps.append(step)
            self._done += 1
            del self._stocks[self._done:]
            self._stocks.append(stock)

    def undo(self):
        """Take back the last done step; tell whether there was one."""
        if self._done == 0:
            return False
        self._done -= 1
        return True

    def again(self):
        """Do the last undone step again; tell whether there was one."""
        if self._done == len(self._steps):
            return False
        self._done += 1
        return True

    def verdict(self):
        """Return an accepted verdict for the stock as it stands."""
        return make_verdict(self._stocks[self._done])
