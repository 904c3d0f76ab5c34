"""The states of a code book and the moves between them."""

from oddskept.bench import Bench, first_registers, kept_cells, run_line, waits
from oddskept.changes import with_item
from oddskept.errors import BadMove

BEGIN = 0
STEP = 1
ANSWER = 2


def first_state(code):
    """Return the state in which a code book starts."""
    return (code.rows, tuple([book.first for _, book in code.parts]), ((),) * len(code.ports))


def moves_of(code, state):
    """Return the list of the moves of a state."""
    moves = []
    for port in range(len(code.ports)):
        moves.extend(moves_at(code, state, port))
    return moves


def moves_at(code, state, port):
    """Return the list of the moves of one port."""
    _, parts, calls = state
    if calls[port] == ():
        return [(BEGIN, port, item) for item in range(len(code.ports[port]))]
    deed, line, registers = calls[port]
    instruction = code.lines_of(deed)[line][0]
    if instruction[0] == "answer":
        return [(ANSWER, port, registers[instruction[1]])]
    if waits(code, parts, registers, instruction):
        return []
    return [(STEP, port, 0)]


def after(code, state, move):
    """Return the state to which a move leads."""
    if not _is_move(code, state, move):
        raise BadMove(0)
    return play_move(code, state, move)


def walk(code, state, row):
    """Return the state to which a row of moves leads."""
    for index, move in enumerate(row):
        if not _is_move(code, state, move):
            raise BadMove(index)
        state = play_move(code, state, move)
    return state


def play_move(code, state, move):
    """Return the state to which a move leads that is known to be one of the moves of the state."""
    cells, parts, calls = state
    kind, port, value = move
    if kind == STEP:
        return _stepped(code, state, port)
    call = ()
    if kind == BEGIN:
        deed, argument = code.ports[port][value]
        call = (deed, 0, first_registers(code, argument))
    return (cells, parts, with_item(calls, port, call))


def _is_move(code, state, move):
    """Tell whether three integers are a move of the state."""
    return 0 <= move[1] < len(code.ports) and move in moves_at(code, state, move[1])


def _stepped(code, state, port):
    """Return the state behind a step: a line, and those that are fused to it and can run now."""
    cells, parts, calls = state
    deed, line, registers = calls[port]
    lines = code.lines_of(deed)
    bench = Bench(code, cells, parts, registers)
    running = True
    while running:
        instruction, fused = lines[line]
        line = run_line(bench, instruction, line)
        running = fused and not _holds(bench, lines[line][0])
    call = (deed, line, tuple(bench.registers))
    return (kept_cells(bench), tuple(bench.parts), with_item(calls, port, call))


def _holds(bench, instruction):
    """Tell whether a step ends ahead of this instruction, even if the line before it is fused."""
    return instruction[0] == "answer" or waits(bench.code, bench.parts, bench.registers, instruction)
