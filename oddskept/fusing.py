"""Fusing the lines of code."""

from oddskept.errors import BadBook
from oddskept.instructions import LOCAL, closes_ring
from oddskept.variants import has_spot, with_deeds


def fuse(code, spots):
    """Return the code book in which the lines of the spots are fused."""
    if not all([has_spot(code, deed, line) for deed, line in spots]):
        raise BadBook("a spot is not there")
    chosen = {(deed, line): True for deed, line in spots}
    deeds = [(name, [(instruction, fused or (name, at) in chosen) for at, (instruction, fused) in enumerate(lines)])
             for name, lines in code.deeds]
    return with_deeds(code, deeds)


def thin(code):
    """Return the code book in which all local lines are fused that close no ring with those fused before them."""
    deeds = []
    for name, lines in code.deeds:
        instructions = [instruction for instruction, _ in lines]
        marks = [fused for _, fused in lines]
        for at, instruction in enumerate(instructions):
            if instruction[0] in LOCAL and not marks[at]:
                marks[at] = not closes_ring(instructions, marks, at)
        deeds.append((name, list(zip(instructions, marks))))
    return with_deeds(code, deeds)
