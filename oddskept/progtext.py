"""The text of a program."""

from oddskept.instructions import read_as, write_instruction
from oddskept.progbook import Program
from oddskept.proglines import program_form
from oddskept.textlines import END, entries_of, words_of
from oddskept.words import numbers_of

FOLLOW = {
    "": ("mail",),
    "mail": ("objects",),
    "objects": ("thread", END),
    "thread": ("line", "thread", END),
    "line": ("line", "thread", END),
}


def write_program(program):
    """Return the text of a program."""
    lines = [f"mail {program.mail}", f"objects {program.objects}"]
    for thread in program.threads:
        lines.append("thread")
        lines.extend([f"  {write_instruction(instruction)}" for instruction in thread])
    return "\n".join(lines) + "\n"


def read_program(text):
    """Return the program with this text."""
    entries = entries_of(text, _entry, dict(FOLLOW))
    threads = []
    for head, content in entries[2:]:
        if head == "thread":
            threads.append([])
        else:
            threads[-1].append(content)
    return Program(entries[0][1][0], entries[1][1][0], threads)


def _entry(line):
    """Return the entry of a line of the text, None if it is malformed."""
    if line.startswith(" "):
        words = words_of(line, 2)
        instruction = read_as(program_form(words[0], len(words) - 1), words) if words else None
        return None if instruction is None else ("line", instruction)
    words = words_of(line, 0)
    if words == ["thread"]:
        return ("thread", ())
    if len(words) == 2 and words[0] in ("mail", "objects"):
        numbers = numbers_of(words[1:])
        return None if numbers is None else (words[0], numbers)
    return None
