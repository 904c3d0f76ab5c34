"""Quiet lines: those that no other port notices."""

from oddskept.instructions import LOCAL, followers
from oddskept.rings import lines_off_rings


def quiet_lines(lines):
    """Return a dict with lines of a deed from which a step touches no cell and no part.

    They lie on no ring of such lines, so one cannot go on with them for ever.
    """
    instructions = [instruction for instruction, _ in lines]
    follow = [followers(instructions, line) for line in range(len(lines))]
    local = [line for line, instruction in enumerate(instructions) if instruction[0] in LOCAL]
    quiet = lines_off_rings(follow, local)
    before = len(quiet) + 1
    # A fused line runs on into the lines behind it, an answer excepted.
    while len(quiet) < before:
        before = len(quiet)
        for line in list(quiet):
            if lines[line][1] and not all([one in quiet or instructions[one][0] == "answer" for one in follow[line]]):
                del quiet[line]
    return quiet
