"""Tables of objects upon other objects."""

from oddskept.changes import with_item
from oddskept.coderun import BEGIN, STEP, moves_at
from oddskept.errors import Unfit
from oddskept.flatdeeds import FROM_BEGIN, FROM_LOWER, FROM_NOTHING, FROM_UPPER, flat_deeds
from oddskept.guides import TableGuide
from oddskept.judges import judge_table
from oddskept.nodes import first_pair
from oddskept.upon import upon
from oddskept.web import Web


def upon_table(upper, lowers, table, tables):
    """Return an accepted table of an object upon others, made of accepted tables of the stocks."""
    if len(tables) != len(lowers):
        raise Unfit("each lower stock has a table")
    if not judge_table(upper, table) or not all([judge_table(lower, one) for lower, one in zip(lowers, tables)]):
        raise Unfit("a table is not accepted")
    flat = upon(upper, lowers)
    web = Web(flat)
    tower = Tower(upper, lowers, table, tables)
    # What is reached of the flat state, the pair of the upper stock and the pairs of the lower ones.
    start = (first_pair(flat)[0], first_pair(upper), tuple([first_pair(lower) for lower in lowers]))
    seen = {start: True}
    waiting = [start]
    while waiting:
        state, top, lows = waiting.pop()
        for move, goal in web.leads_of(state):
            top_behind, lows_behind = tower.followed(state, top, lows, move, goal)
            behind = (goal, top_behind, lows_behind)
            if behind not in seen:
                seen[behind] = True
                waiting.append(behind)
    return tuple({(state, top[1]): True for state, top, _ in seen})


class Tower:
    """The upper and the lower stocks with their tables, which follow the moves of the flat code."""

    def __init__(self, upper, lowers, table, tables):
        codes = [lower.code for lower in lowers]
        self._codes = codes
        self._flats = dict(flat_deeds(upper.code, codes))
        self._upper = TableGuide(upper, table)
        self._lowers = [TableGuide(lower, one) for lower, one in zip(lowers, tables)]

    def followed(self, state, top, lows, move, goal):
        """Return the pair of the upper stock and those of the lower ones behind a move of the flat code."""
        kind, port, _ = move
        if kind != STEP:
            return self._upper.followed(top, move)[0], lows
        deed, line, registers = state[2][port]
        origin = self._flats[deed].origins[line]
        if origin[0] == FROM_UPPER:
            return self._upper.followed(top, move)[0], lows
        if origin[0] == FROM_NOTHING:
            return top, lows
        part = origin[1]
        if origin[0] == FROM_BEGIN:
            item = self._codes[part].ports[port].index((origin[2], registers[origin[3]]))
            return top, self._low_behind(lows, part, (BEGIN, port, item))
        if origin[0] == FROM_LOWER:
            lows = self._low_behind(lows, part, move)
            # If the last line that ran was fused, the copy that stands for the answer has run, too.
            _, line, _ = goal[2][port]
            if self._flats[deed].origins[line][0] != FROM_NOTHING:
                return top, lows
        return self._answered(top, lows, part, port)

    def _low_behind(self, lows, part, move):
        """Return the pairs of the lower stocks behind a begin or a step of one of them."""
        return with_item(lows, part, self._lowers[part].followed(lows[part], move)[0])

    def _answered(self, top, lows, part, port):
        """Return the pairs behind an answer of a lower stock; each take that leads there is a use of the upper code."""
        move = moves_at(self._codes[part], lows[part][0], port)[0]
        low, piece = self._lowers[part].followed(lows[part], move)
        for word, taker, _ in piece:
            if word == "take":
                top, _ = self._upper.followed(top, (STEP, taker, 0))
        return top, with_item(lows, part, low)
