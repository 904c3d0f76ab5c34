"""Flat deeds: the lines of lower deeds in the place of the uses of an upper deed."""

from oddskept.instructions import moved

# What a flat line stands for: a line of the upper deed, the begin of a lower call, a line of the lower deed,
# the answer of the lower call, or nothing.
FROM_UPPER = "upper"
FROM_BEGIN = "begin"
FROM_LOWER = "lower"
FROM_ANSWER = "answer"
FROM_NOTHING = "nothing"


def flat_deeds(code, codes):
    """Return the list of the pairs (name, flat deed) of an upper code upon lower codes."""
    return [(name, FlatDeed(code, codes, lines)) for name, lines in code.deeds]


class FlatDeed:
    """The lines of a flat deed, and for each of them an *origin*, what it stands for.

    An origin is a tuple of one of the words, the number of the lower code (0 for an upper line), and for a begin
    also the lower deed and the register with its argument.
    """

    def __init__(self, upper, lowers, lines):
        self.lines = []
        self.origins = []
        self._upper = upper
        self._lowers = lowers
        starts = [0]
        for instruction, _ in lines:
            starts.append(starts[-1] + self._length_of(instruction))
        for instruction, fused in lines:
            if instruction[0] == "use":
                self._add_block(instruction)
            else:
                self._add(_aimed(instruction, starts), fused, (FROM_UPPER, 0))

    def _length_of(self, instruction):
        """Return the number of lines in the block of an upper line."""
        if instruction[0] != "use":
            return 1
        lower = self._lowers[instruction[2]]
        return _starts_in(lower.lines_of(instruction[3]))[-1] + 1 + lower.registers

    def _add(self, instruction, fused, origin):
        self.lines.append((instruction, fused))
        self.origins.append(origin)

    def _add_block(self, use):
        """Append the block of a use line."""
        _, target, part, deed, source = use
        first = self._upper.registers
        rows = len(self._upper.rows) + sum([len(lower.rows) for lower in self._lowers[:part]])
        lines = self._lowers[part].lines_of(deed)
        self._add(("copy", first, source), False, (FROM_BEGIN, part, deed, source))
        base = len(self.lines)
        starts = [base + start for start in _starts_in(lines)]
        for instruction, fused in lines:
            shifted = moved(instruction, {"r": first, "j": rows})
            if instruction[0] == "answer":
                self._add(("copy", target, shifted[1]), False, (FROM_ANSWER, part))
                self._add(("jump", starts[-1]), False, (FROM_NOTHING, part))
            else:
                self._add(_aimed(shifted, starts), fused, (FROM_LOWER, part))
        for number in range(self._lowers[part].registers):
            self._add(("set", first + number, 0), False, (FROM_NOTHING, part))


def _starts_in(lines):
    """Return what the first lines of a lower deed's lines are in piece 2 of a block, and the length of piece 2."""
    starts = [0]
    for instruction, _ in lines:
        starts.append(starts[-1] + (2 if instruction[0] == "answer" else 1))
    return starts


def _aimed(instruction, starts):
    """Return an instruction, if it is a jump with the line to which its target has become."""
    if instruction[0] != "jump":
        return instruction
    return ("jump", starts[instruction[1]], *instruction[2:])
