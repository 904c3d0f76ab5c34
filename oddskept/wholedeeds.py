"""Deeds that run whole, and the plain book in which every deed does."""

from oddskept.bench import Bench, first_registers, kept_cells, run_line, waits
from oddskept.coderun import first_state
from oddskept.errors import TooLarge
from oddskept.plainbook import MOST_STATES, PlainBook

MOST_LINES = 1000


def whole_deed(code, cells, parts, deed, argument):
    """Return the cells, the parts and the answer that a deed alone gives, None if it gives nothing."""
    lines = code.lines_of(deed)
    bench = Bench(code, cells, parts, first_registers(code, argument))
    line = 0
    for _ in range(MOST_LINES):
        instruction = lines[line][0]
        if instruction[0] == "answer":
            return (kept_cells(bench), tuple(bench.parts), bench.registers[instruction[1]])
        if waits(code, bench.parts, bench.registers, instruction):
            return None
        line = run_line(bench, instruction, line)
    return None


def atomic(code):
    """Return the atomic book of a code book."""
    items = _items_of(code)
    cells, parts, _ = first_state(code)
    met = [(cells, parts)]
    numbers = {(cells, parts): 0}
    choices = []
    at = 0
    while at < len(met):
        for deed, argument in items:
            given = whole_deed(code, met[at][0], met[at][1], deed, argument)
            if given is not None:
                cells, parts, answer = given
                if (cells, parts) not in numbers:
                    if len(met) == MOST_STATES:
                        raise TooLarge("an atomic book has too many states")
                    numbers[(cells, parts)] = len(met)
                    met.append((cells, parts))
                choices.append((deed, at, argument, numbers[(cells, parts)], answer))
        at += 1
    return PlainBook(len(met), 0, choices)


def _items_of(code):
    """Return the items of all menus, each once, by the place of the deed, then by argument."""
    asked = {item: True for menu in code.ports for item in menu}
    return [(name, argument) for name, _ in code.deeds for argument in range(code.modulus)
            if (name, argument) in asked]
