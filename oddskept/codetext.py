"""The text of a code book."""

from oddskept.codebook import CodeBook
from oddskept.instructions import read_instruction, write_instruction
from oddskept.textlines import END, entries_of, words_of
from oddskept.words import is_name, is_number, numbers_of

FOLLOW = {
    "": ("modulus",),
    "modulus": ("registers",),
    "registers": ("row", "part", "port", "deed", END),
    "row": ("row", "part", "port", "deed", END),
    "part": ("part", "port", "deed", END),
    "port": ("port", "deed", END),
    "deed": ("line", "deed", END),
    "line": ("line", "deed", END),
}


def write_code(code):
    """Return the text of a code book."""
    lines = [f"modulus {code.modulus}", f"registers {code.registers}"]
    for row in code.rows:
        lines.append(" ".join(["row"] + [str(value) for value in row]))
    for name, _ in code.parts:
        lines.append(f"part {name}")
    for menu in code.ports:
        lines.append(" ".join(["port"] + [f"{deed}.{argument}" for deed, argument in menu]))
    for name, deed in code.deeds:
        lines.append(f"deed {name}")
        lines.extend([_written_line(line) for line in deed])
    return "\n".join(lines) + "\n"


def _written_line(line):
    """Return a line of a deed as it is written."""
    instruction, fused = line
    mark = " +" if fused else ""
    return f"  {write_instruction(instruction)}{mark}"


def read_code(text, parts=None):
    """Return the code book with this text; `parts` has the plain books by the names of the parts."""
    books = {} if parts is None else parts
    entries = entries_of(text, lambda line: _entry(line, books), dict(FOLLOW))
    modulus = entries[0][1][0]
    registers = entries[1][1][0]
    rows = _contents(entries, "row")
    return CodeBook(modulus, registers, rows, _contents(entries, "part"), _contents(entries, "port"), _deeds(entries))


def _contents(entries, head):
    """Return the list of the contents of the entries with this head."""
    return [content for word, content in entries if word == head]


def _deeds(entries):
    """Return the list of the deeds, each a pair of its name and the list of its lines."""
    deeds = []
    for head, content in entries:
        if head == "deed":
            deeds.append((content, []))
        elif head == "line":
            deeds[-1][1].append(content)
    return deeds


def _entry(line, books):
    """Return the entry of a line of the text, None if it is malformed."""
    if line.startswith(" "):
        head = "line"
        content = _read_line(words_of(line, 2))
    else:
        words = words_of(line, 0)
        head = words[0] if words else ""
        content = _content(head, words[1:], books)
    return None if content is None else (head, content)


def _content(head, words, books):
    """Return what the words behind the head tell, None if they are malformed."""
    if head == "row" and words:
        return numbers_of(words)
    if head == "port":
        return _menu(words)
    if len(words) != 1:
        return None
    if head in ("modulus", "registers"):
        return numbers_of(words)
    if head == "part" and is_name(words[0]) and words[0] in books:
        return (words[0], books[words[0]])
    if head == "deed" and is_name(words[0]):
        return words[0]
    return None


def _menu(words):
    """Return the tuple of the items that are written so, None if one is malformed."""
    pairs = [word.partition(".") for word in words]
    # A word without a dot has nothing behind it, and nothing is not a number.
    if not all([is_name(deed) and is_number(argument) for deed, _, argument in pairs]):
        return None
    return tuple([(deed, int(argument)) for deed, _, argument in pairs])


def _read_line(words):
    """Return the line of a deed that is written with these words, None if it is malformed."""
    fused = words[-1:] == ["+"]
    instruction = read_instruction(words[:-1] if fused else words)
    return None if instruction is None else (instruction, fused)
