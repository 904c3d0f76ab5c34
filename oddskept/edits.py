"""Edits: small changes of stocks."""

from oddskept.changes import with_item, without_item
from oddskept.errors import BadBook, BadEdit
from oddskept.plainbook import PlainBook
from oddskept.stocks import Stock
from oddskept.variants import has_spot, with_choices, with_line, with_ports, with_rows


def edited(stock, edit):
    """Return a new stock that differs from a stock by one edit."""
    word, *told = edit
    action = ACTIONS[word]
    try:
        changed = action(stock, *told)
    except BadBook:
        changed = None
    if changed is None:
        raise BadEdit(0)
    return changed


def _with_code(stock, code):
    """Return the stock with another code book."""
    return Stock(code, stock.plain)


def _with_plain(stock, plain):
    """Return the stock with another plain book."""
    return Stock(stock.code, plain)


# Each of the functions below returns the stock with an edit, or None if the edit names what is not there, or
# asks for what is there already. What they make can be refused with BadBook.


def _line(stock, deed, line, instruction):
    if not has_spot(stock.code, deed, line):
        return None
    _, fused = stock.code.lines_of(deed)[line]
    return _with_code(stock, with_line(stock.code, deed, line, (instruction, fused)))


def _fuse(stock, deed, line):
    return _marked(stock, deed, line, True)


def _loose(stock, deed, line):
    return _marked(stock, deed, line, False)


def _marked(stock, deed, line, mark):
    """Return the stock with a line fused or loose that was not so, None if it is not there or was so."""
    if not has_spot(stock.code, deed, line):
        return None
    instruction, fused = stock.code.lines_of(deed)[line]
    if fused == mark:
        return None
    return _with_code(stock, with_line(stock.code, deed, line, (instruction, mark)))


def _value(stock, row, place, value):
    rows = stock.code.rows
    if not 0 <= row < len(rows) or not 0 <= place < len(rows[row]):
        return None
    return _with_code(stock, with_rows(stock.code, with_item(rows, row, with_item(rows[row], place, value))))


def _put(stock, port, deed, argument):
    ports = stock.code.ports
    if not 0 <= port < len(ports) or (deed, argument) in ports[port]:
        return None
    menu = (*ports[port], (deed, argument))
    return _with_code(stock, with_ports(stock.code, with_item(ports, port, menu)))


def _take(stock, port, deed, argument):
    ports = stock.code.ports
    if not 0 <= port < len(ports) or (deed, argument) not in ports[port]:
        return None
    menu = without_item(ports[port], ports[port].index((deed, argument)))
    return _with_code(stock, with_ports(stock.code, with_item(ports, port, menu)))


def _allow(stock, deed, state, argument, goal, answer):
    choice = (deed, state, argument, goal, answer)
    # A book has no choice twice, so one that is there is refused with the book.
    return _with_plain(stock, with_choices(stock.plain, (*stock.plain.choices, choice)))


def _forbid(stock, deed, state, argument, goal, answer):
    choices = stock.plain.choices
    choice = (deed, state, argument, goal, answer)
    if choice not in choices:
        return None
    return _with_plain(stock, with_choices(stock.plain, without_item(choices, choices.index(choice))))


def _first(stock, state):
    return _with_plain(stock, PlainBook(stock.plain.states, state, stock.plain.choices))


ACTIONS = {
    "line": _line,
    "fuse": _fuse,
    "loose": _loose,
    "value": _value,
    "put": _put,
    "take": _take,
    "allow": _allow,
    "forbid": _forbid,
    "first": _first,
}
