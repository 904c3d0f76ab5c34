"""The bench: what a call works on while its lines run."""


class Bench:
    """The cells, parts and registers of one running call, as lists that its lines change."""

    def __init__(self, code, cells, parts, registers):
        self.code = code
        self.cells = [list(row) for row in cells]
        self.parts = list(parts)
        self.registers = list(registers)


def first_registers(code, argument):
    """Return the registers of a call that has just begun."""
    return (argument,) + (0,) * (code.registers - 1)


def kept_cells(bench):
    """Return the cells of a bench as a tuple of tuples."""
    return tuple([tuple(row) for row in bench.cells])


def waits(code, parts, registers, instruction):
    """Tell whether an instruction is a use that waits for these parts and registers."""
    if instruction[0] != "use":
        return False
    _, _, part, deed, source = instruction
    return not code.parts[part][1].options(deed, parts[part], registers[source])


def run_line(bench, instruction, line):
    """Run the instruction at a line, no answer and no use that waits; return the next line."""
    if instruction[0] == "jump":
        return _jump(bench, instruction, line)
    action = ACTIONS[instruction[0]]
    action(bench, instruction)
    return line + 1


def _jump(bench, instruction, line):
    if len(instruction) == 2 or bench.registers[instruction[2]] != 0:
        return instruction[1]
    return line + 1


def _cell(bench, operands):
    """Return the row and the index of the cell that the last operands of an instruction name."""
    row = bench.cells[operands[0]]
    shift = bench.registers[operands[2]] if len(operands) == 3 else 0
    return row, (operands[1] + shift) % len(row)


def _read(bench, instruction):
    row, at = _cell(bench, instruction[2:])
    bench.registers[instruction[1]] = row[at]


def _write(bench, instruction):
    row, at = _cell(bench, instruction[2:])
    row[at] = bench.registers[instruction[1]]


def _swap(bench, instruction):
    row, at = _cell(bench, instruction[2:])
    old = row[at]
    row[at] = bench.registers[instruction[1]]
    bench.registers[instruction[1]] = old


def _test(bench, instruction):
    _, target, wanted, given = instruction[:4]
    row, at = _cell(bench, instruction[4:])
    if row[at] == bench.registers[wanted]:
        row[at] = bench.registers[given]
        bench.registers[target] = 1
    else:
        bench.registers[target] = 0


def _count(bench, instruction):
    _, target, step = instruction[:3]
    row, at = _cell(bench, instruction[3:])
    bench.registers[target] = row[at]
    row[at] = (row[at] + step) % bench.code.modulus


def _use(bench, instruction):
    _, target, part, deed, source = instruction
    book = bench.code.parts[part][1]
    goal, answer = book.options(deed, bench.parts[part], bench.registers[source])[0]
    bench.parts[part] = goal
    bench.registers[target] = answer


def _set(bench, instruction):
    bench.registers[instruction[1]] = instruction[2]


def _copy(bench, instruction):
    bench.registers[instruction[1]] = bench.registers[instruction[2]]


def _add(bench, instruction):
    _, target, one, two = instruction
    bench.registers[target] = (bench.registers[one] + bench.registers[two]) % bench.code.modulus


def _less(bench, instruction):
    _, target, one, two = instruction
    bench.registers[target] = 1 if bench.registers[one] < bench.registers[two] else 0


def _same(bench, instruction):
    _, target, one, two = instruction
    bench.registers[target] = 1 if bench.registers[one] == bench.registers[two] else 0


ACTIONS = {
    "read": _read,
    "write": _write,
    "swap": _swap,
    "test": _test,
    "count": _count,
    "use": _use,
    "set": _set,
    "copy": _copy,
    "add": _add,
    "less": _less,
    "same": _same,
}
