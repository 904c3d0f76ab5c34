"""Deeds that a scheduler may always do at once.

Such a deed throws no coin and prints nothing. It changes nothing, and needs nothing, that a deed of another
thread can change or need ahead of it. So all that can be done without it can be done behind it as well, and
the best odds stay what they are.
"""

from oddskept.hall import CODE
from oddskept.instructions import LOCAL, followers
from oddskept.plainrun import DONE
from oddskept.quiet import quiet_lines
from oddskept.rings import lines_off_rings


class EagerLines:
    """The lines of the threads of a hall whose deeds may be done at once.

    There are no rings of such lines but those with a fetch, which empties a mail cell; so one cannot go on
    with them for ever.
    """

    def __init__(self, hall):
        self._hall = hall
        users = _users_of_cells(hall.program)
        self._lines = [_eager_lines(thread, users) for thread in hall.program.threads]
        self._of_deeds = [{deed: _lines_at_once(lines) for deed, lines in stock.code.deeds} for stock in hall.stocks]

    def pick_at(self, position):
        """Return a pick of the position that may be done at once, None if there is none; threads may be None."""
        for thread, one in enumerate(position[1]):
            if one is not None and one[0] in self._lines[thread] and self._goes_on(position, thread):
                return (thread, 0)
        return None

    def _goes_on(self, position, thread):
        """Tell whether the next deed of a thread at an eager line may be done at once."""
        mail, threads, objects = position
        line, _, inside = threads[thread]
        if inside == ():
            instruction = self._hall.program.threads[thread][line]
            return instruction[0] != "fetch" or mail[instruction[2]] != 0
        number, port = inside
        if self._hall.ways[number] == CODE:
            deed, at, _ = objects[number][2][port]
            return at in self._of_deeds[number][deed]
        return objects[number][1][port][0] == DONE


def _users_of_cells(program):
    """Return, for each mail cell, a dict with the threads that do not only send to it."""
    users = [{} for _ in range(program.mail)]
    for number, thread in enumerate(program.threads):
        for instruction in thread:
            if instruction[0] in ("look", "leave", "fetch"):
                users[instruction[2]][number] = True
    return users


def _eager_lines(thread, users):
    """Return a dict with the lines of a thread at which deeds may be done at once."""
    own = [line for line, instruction in enumerate(thread) if instruction[0] == "call" or instruction[0] in LOCAL]
    eager = lines_off_rings([followers(thread, line) for line in range(len(thread))], own)
    for line, instruction in enumerate(thread):
        if instruction[0] == "fetch" and len(users[instruction[2]]) == 1:
            eager[line] = True
    return eager


def _lines_at_once(lines):
    """Return a dict with the lines of a deed whose step or answer touches no cell and no part."""
    at_once = quiet_lines(lines)
    for line, (instruction, _) in enumerate(lines):
        if instruction[0] == "answer":
            at_once[line] = True
    return at_once
