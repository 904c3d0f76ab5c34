"""Tables of stocks side by side."""

from oddskept.beside import LETTERS, beside, joint_number
from oddskept.errors import Unfit
from oddskept.judges import judge_table
from oddskept.plainrun import ASKED


def beside_table(stocks, tables):
    """Return an accepted table of the stocks side by side, made of accepted tables of the stocks."""
    if len(tables) != len(stocks):
        raise Unfit("each stock has a table")
    if not all([judge_table(stock, table) for stock, table in zip(stocks, tables)]):
        raise Unfit("a table is not accepted")
    registers = beside(*stocks).code.registers
    joined = [()]
    for letter, table in zip(LETTERS, tables):
        pairs = {_renamed(pair, letter, registers): True for pair in table}
        joined = [(*ones, pair) for ones in joined for pair in pairs]
    sizes = [stock.plain.states for stock in stocks]
    return tuple([_joined_pair(ones, sizes) for ones in joined])


def _renamed(pair, letter, registers):
    """Return a pair with a letter in front of the deed names and so many registers in each call."""
    (cells, parts, calls), (number, marks) = pair
    calls = tuple([_renamed_call(call, letter, registers) for call in calls])
    marks = tuple([_renamed_mark(mark, letter) for mark in marks])
    return ((cells, parts, calls), (number, marks))


def _renamed_call(call, letter, registers):
    """Return the call of a port with a letter in front of its deed name and so many registers."""
    if call == ():
        return ()
    deed, line, values = call
    return (letter + deed, line, values + (0,) * (registers - len(values)))


def _renamed_mark(mark, letter):
    """Return a mark, if it is asked with a letter in front of its deed name."""
    if mark == () or mark[0] != ASKED:
        return mark
    return (ASKED, letter + mark[1], mark[2])


def _joined_pair(pairs, sizes):
    """Return the joined pair of one renamed pair for each stock."""
    states = [state for state, _ in pairs]
    plains = [plain for _, plain in pairs]
    cells = tuple([row for rows, _, _ in states for row in rows])
    parts = tuple([part for _, ones, _ in states for part in ones])
    calls = tuple([call for _, _, ones in states for call in ones])
    marks = tuple([mark for _, ones in plains for mark in ones])
    return ((cells, parts, calls), (joint_number([number for number, _ in plains], sizes), marks))
