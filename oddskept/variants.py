"""Books with one field changed."""

from oddskept.changes import with_item
from oddskept.codebook import CodeBook
from oddskept.plainbook import PlainBook


def with_deeds(code, deeds):
    """Return the code book with other deeds."""
    return CodeBook(code.modulus, code.registers, code.rows, code.parts, code.ports, deeds)


def with_line(code, deed, at, line):
    """Return the code book with another line in a deed."""
    deeds = [(name, with_item(lines, at, line) if name == deed else lines) for name, lines in code.deeds]
    return with_deeds(code, deeds)


def with_ports(code, ports):
    """Return the code book with other menus."""
    return CodeBook(code.modulus, code.registers, code.rows, code.parts, ports, code.deeds)


def with_rows(code, rows):
    """Return the code book with other rows."""
    return CodeBook(code.modulus, code.registers, rows, code.parts, code.ports, code.deeds)


def with_choices(plain, choices):
    """Return the plain book with other choices."""
    return PlainBook(plain.states, plain.first, choices)


def has_spot(code, deed, line):
    """Tell whether a code has a line of this number in a deed of this name."""
    return code.has_deed(deed) and 0 <= line < len(code.lines_of(deed))
