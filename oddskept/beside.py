"""Stocks side by side."""

from oddskept.codebook import CodeBook
from oddskept.errors import BadBook, Unfit
from oddskept.instructions import moved
from oddskept.plainbook import MOST_STATES, PlainBook
from oddskept.stocks import Stock

# One letter for each stock.
LETTERS = "abcd"


def beside(one, two, *more):
    """Return the stock that has the ports of two to four stocks."""
    stocks = [one, two, *more]
    if len(stocks) > len(LETTERS):
        raise Unfit("at most four stocks stand side by side")
    if any([stock.code.modulus != one.code.modulus for stock in stocks]):
        raise Unfit("the moduli of the codes differ")
    code = _joined_code([stock.code for stock in stocks])
    return Stock(code, _joined_book([stock.plain for stock in stocks]))


def _joined_code(codes):
    """Return the code book with the rows, parts, ports and deeds of all codes."""
    rows = []
    parts = []
    ports = []
    deeds = []
    for letter, code in zip(LETTERS, codes):
        shifts = {"j": len(rows), "i": len(parts)}
        deeds.extend([(letter + name, _moved_lines(lines, shifts)) for name, lines in code.deeds])
        ports.extend([[(letter + deed, argument) for deed, argument in menu] for menu in code.ports])
        parts.extend([(letter + name, book) for name, book in code.parts])
        rows.extend(list(code.rows))
    return CodeBook(codes[0].modulus, max([code.registers for code in codes]), rows, parts, ports, deeds)


def _moved_lines(lines, shifts):
    """Return the lines with their operands moved."""
    return [(moved(instruction, shifts), fused) for instruction, fused in lines]


def _joined_book(books):
    """Return the plain book whose states are the joint numbers of states of all books."""
    sizes = [book.states for book in books]
    many = 1
    for size in sizes:
        many = many * size
    if many > MOST_STATES:
        raise BadBook("there are too many joint numbers")
    choices = []
    for at, book in enumerate(books):
        # The joint numbers that differ in this state number alone are a stride apart.
        stride = joint_number([0] * at + [1] + [0] * (len(books) - at - 1), sizes)
        joints = _joints_by_state(book.states, stride, many)
        for deed, state, argument, goal, answer in book.choices:
            choices.extend([(LETTERS[at] + deed, joint, argument, joint + (goal - state) * stride, answer)
                            for joint in joints[state]])
    return PlainBook(many, joint_number([book.first for book in books], sizes), choices)


def _joints_by_state(states, stride, many):
    """Return, for each state of one stock, the joint numbers with it."""
    joints = [[] for _ in range(states)]
    for joint in range(many):
        joints[joint // stride % states].append(joint)
    return joints


def joint_number(numbers, sizes):
    """Return the joint number of one state number for each stock, with their numbers of states."""
    joint = 0
    for number, size in zip(numbers, sizes):
        joint = joint * size + number
    return joint
