"""The lines of edits in texts."""

from oddskept.instructions import fitting, read_as, read_instruction, write_instruction
from oddskept.textlines import words_of

# One letter for each word behind the first one: D is a name, n a number. The edit `line` has a form of its own.
FORMS = {
    "fuse": ("Dn",),
    "loose": ("Dn",),
    "value": ("nnn",),
    "put": ("nDn",),
    "take": ("nDn",),
    "allow": ("Dnnnn",),
    "forbid": ("Dnnnn",),
    "first": ("n",),
}
LINE_FORMS = ("Dn",)


def write_edit(edit):
    """Return the line of an edit."""
    if edit[0] == "line":
        _, deed, line, instruction = edit
        return f"line {deed} {line} {write_instruction(instruction)}"
    return " ".join([str(one) for one in edit])


def read_edit(line):
    """Return the edit with this line, None if it is malformed."""
    words = words_of(line, 0)
    if not words:
        return None
    if words[0] == "line":
        return _read_line_edit(words)
    return read_as(fitting(FORMS.get(words[0], ()), len(words) - 1), words)


def _read_line_edit(words):
    """Return the edit of a line that is written with these words, None if it is malformed."""
    head = read_as(fitting(LINE_FORMS, len(words[1:3])), words[:3])
    instruction = read_instruction(words[3:])
    return None if head is None or instruction is None else (*head, instruction)
