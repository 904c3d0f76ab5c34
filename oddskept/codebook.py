"""Code books: the code of a shared object."""

from oddskept.errors import BadBook
from oddskept.instructions import followers, form_of, have_ring
from oddskept.words import is_name

PLACES = 8


class CodeBook:
    """The cells, parts, ports and deeds of the code of a shared object."""

    def __init__(self, modulus, registers, rows, parts, ports, deeds):
        self.modulus = modulus
        self.registers = registers
        self.rows = _tuples(rows)
        self.parts = _tuples(parts)
        self.ports = tuple([_tuples(menu) for menu in ports])
        self.deeds = tuple([(name, _kept_lines(lines)) for name, lines in deeds])
        self._lines = {name: lines for name, lines in self.deeds}
        if not 2 <= modulus <= 8 or not 1 <= registers <= 16:
            raise BadBook("the modulus or the number of registers is out of range")
        if not _are_sound_rows(self.rows, modulus):
            raise BadBook("the rows of cells are out of bounds")
        if not _are_sound_parts(self.parts, modulus):
            raise BadBook("the parts are out of bounds")
        if not _are_sound_deeds(self):
            raise BadBook("the deeds are out of bounds")
        if not _are_sound_ports(self):
            raise BadBook("the ports are out of bounds")

    def has_deed(self, deed):
        """Tell whether a deed of this name is in the book."""
        return deed in self._lines

    def lines_of(self, deed):
        """Return the tuple of the lines of a deed of the book."""
        return self._lines[deed]


def _tuples(rows):
    """Return rows of any kind as a tuple of tuples."""
    return tuple([tuple(row) for row in rows])


def _kept_lines(lines):
    """Return the lines of a deed as tuples at every level."""
    return tuple([(tuple(instruction), fused) for instruction, fused in lines])


def _differ(names):
    """Tell whether no two of the names are equal."""
    return len(set(names)) == len(names)


def _are_values(values, modulus):
    """Tell whether all the numbers are values."""
    return all([0 <= value < modulus for value in values])


def _are_sound_rows(rows, modulus):
    """Tell whether the rows of cells keep to their bounds."""
    if len(rows) > 8 or sum([len(row) for row in rows]) > 16:
        return False
    return all([1 <= len(row) <= 8 and _are_values(row, modulus) for row in rows])


def _are_sound_parts(parts, modulus):
    """Tell whether the parts keep to their bounds."""
    names = [name for name, _ in parts]
    if len(parts) > 4 or not _differ(names) or not all([is_name(name) for name in names]):
        return False
    return all([_is_sound_part(book, modulus) for _, book in parts])


def _is_sound_part(book, modulus):
    """Tell whether a plain book may be a part of code with this modulus."""
    return book.deterministic and _are_values([choice[4] for choice in book.choices], modulus)


def _are_sound_ports(code):
    """Tell whether the menus keep to their bounds."""
    return 1 <= len(code.ports) <= 8 and all([_is_sound_menu(code, menu) for menu in code.ports])


def _is_sound_menu(code, menu):
    """Tell whether the items of a menu are few enough, differ, and can begin."""
    if len(menu) > 6 or not _differ(menu):
        return False
    return all([code.has_deed(deed) and 0 <= argument < code.modulus for deed, argument in menu])


def _are_sound_deeds(code):
    """Tell whether the deeds keep to their bounds."""
    names = [name for name, _ in code.deeds]
    if not 1 <= len(names) <= 24 or not _differ(names) or not all([is_name(name) for name in names]):
        return False
    return all([_are_sound_lines(code, lines) for _, lines in code.deeds])


def _are_sound_lines(code, lines):
    """Tell whether the lines of a deed keep to their bounds, come to an end, and fuse no ring."""
    if not 1 <= len(lines) <= 160:
        return False
    instructions = [instruction for instruction, _ in lines]
    limits = _limits(code, len(lines))
    if not all([_is_sound(instruction, limits) for instruction in instructions]):
        return False
    # Only now each line has its followers in the deed.
    if len(lines) in followers(instructions, len(lines) - 1):
        return False
    fused = [at for at, line in enumerate(lines) if line[1]]
    if any([instructions[at][0] == "answer" for at in fused]):
        return False
    return not have_ring(instructions, fused)


def _limits(code, many):
    """Return, for each letter of a form, how many operands there are; `many` is the number of lines."""
    return {
        "r": code.registers,
        "j": len(code.rows),
        "k": PLACES,
        "n": code.modulus,
        "i": len(code.parts),
        "l": many,
    }


def _is_sound(instruction, limits):
    """Tell whether an instruction has a known form and operands within their ranges."""
    form = form_of(instruction[0], len(instruction) - 1)
    if form is None:
        return False
    for letter, operand in zip(form, instruction[1:]):
        if letter == "D":
            if not is_name(operand):
                return False
        elif not 0 <= operand < limits[letter]:
            return False
    return True
