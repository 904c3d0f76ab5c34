"""Objects upon other objects."""

from oddskept.codebook import CodeBook
from oddskept.errors import Unfit
from oddskept.flatdeeds import flat_deeds
from oddskept.instructions import followers
from oddskept.stocks import Stock


def upon(upper, lowers):
    """Return the stock in whose code the lower deeds stand for the uses of the upper code."""
    code = upper.code
    if len(lowers) != len(code.parts):
        raise Unfit("each part has a lower stock")
    codes = [lower.code for lower in lowers]
    if not all([_may_be_below(code, lower) for lower in codes]):
        raise Unfit("a lower code has parts, another modulus or too few ports")
    if not all([_are_equal(lower.plain, book) for lower, (_, book) in zip(lowers, code.parts)]):
        raise Unfit("a lower plain book is not that of its part")
    if not all([_has_loose_uses(lines) and _knows_deeds(codes, lines) for _, lines in code.deeds]):
        raise Unfit("a use is fused, or its deed is not in the lower code")
    if not all([_may_begin(codes, port, _uses_of(code, deed)) for port, menu in enumerate(code.ports)
                for deed, _ in menu]):
        raise Unfit("what a use may ask for is not in the menu of its port")
    rows = [row for one in [code, *codes] for row in one.rows]
    registers = code.registers + max([lower.registers for lower in codes], default=0)
    deeds = [(name, deed.lines) for name, deed in flat_deeds(code, codes)]
    return Stock(CodeBook(code.modulus, registers, rows, (), code.ports, deeds), upper.plain)


def _may_be_below(code, lower):
    """Tell whether a lower code may stand for a part of the upper code."""
    return not lower.parts and lower.modulus == code.modulus and len(lower.ports) >= len(code.ports)


def _are_equal(one, two):
    """Tell whether two plain books are equal."""
    return one.states == two.states and one.first == two.first and one.choices == two.choices


def _has_loose_uses(lines):
    """Tell whether no use among the lines of a deed is fused or follows a fused line."""
    instructions = [instruction for instruction, _ in lines]
    for at, (_, fused) in enumerate(lines):
        if fused and "use" in [instructions[one][0] for one in (at, *followers(instructions, at))]:
            return False
    return True


def _knows_deeds(codes, lines):
    """Tell whether each use among the lines names a deed of its lower code."""
    return all([codes[instruction[2]].has_deed(instruction[3]) for instruction, _ in lines if instruction[0] == "use"])


def _uses_of(code, deed):
    """Return the list of the pairs (part, lower deed) of the uses of a deed."""
    return [instruction[2:4] for instruction, _ in code.lines_of(deed) if instruction[0] == "use"]


def _may_begin(codes, port, uses):
    """Tell whether the lower deeds can begin at a port with every value."""
    return all([(deed, value) in codes[part].ports[port] for part, deed in uses
                for value in range(codes[part].modulus)])
