"""The instructions of programs: their forms, and the ranges of their operands."""

from oddskept.instructions import fitting

REGISTERS = 8
VALUES = 1000
PORTS = 8
LEAST_SIDES = 2
MOST_SIDES = 60

# One letter for each operand: r is a register, n a value, k a mail cell, l a line, c the sides of a coin,
# o an object, p a port.
FORMS = {
    "set": ("rn",),
    "copy": ("rr",),
    "add": ("rrr",),
    "less": ("rrr",),
    "same": ("rrr",),
    "jump": ("l", "lr"),
    "look": ("rk",),
    "leave": ("rk",),
    "send": ("rk",),
    "fetch": ("rk",),
    "throw": ("rc",),
    "print": ("r",),
    "call": ("ropr",),
    "stop": ("",),
}


def program_form(word, count):
    """Return the form of an instruction with this word and so many operands, None if there is none."""
    return fitting(FORMS.get(word, ()), count)


def program_ranges(mail, objects, many):
    """Return the least operand and the one beyond the greatest, for each letter; `many` is the number of lines."""
    return {
        "r": (0, REGISTERS),
        "n": (0, VALUES),
        "k": (0, mail),
        "l": (0, many),
        "c": (LEAST_SIDES, MOST_SIDES + 1),
        "o": (0, objects),
        "p": (0, PORTS),
    }
