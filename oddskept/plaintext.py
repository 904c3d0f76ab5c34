"""The text of a plain book."""

from oddskept.plainbook import PlainBook
from oddskept.textlines import END, entries_of, words_of
from oddskept.words import is_name, numbers_of

FOLLOW = {
    "": ("states",),
    "states": ("first",),
    "first": ("choice", END),
    "choice": ("choice", END),
}


def write_plain(plain):
    """Return the text of a plain book."""
    lines = [f"states {plain.states}", f"first {plain.first}"]
    for choice in plain.choices:
        lines.append(" ".join(["choice"] + [str(told) for told in choice]))
    return "\n".join(lines) + "\n"


def read_plain(text):
    """Return the plain book with this text."""
    entries = entries_of(text, _entry, dict(FOLLOW))
    choices = [content for head, content in entries if head == "choice"]
    return PlainBook(entries[0][1][0], entries[1][1][0], choices)


def _entry(line):
    """Return the entry of a line of the text, None if it is malformed."""
    words = words_of(line, 0)
    head = words[0] if words else ""
    content = _content(head, words[1:])
    return None if content is None else (head, content)


def _content(head, words):
    """Return what the words behind the head tell, None if they are malformed."""
    if head in ("states", "first") and len(words) == 1:
        return numbers_of(words)
    if head == "choice" and len(words) == 5 and is_name(words[0]):
        numbers = numbers_of(words[1:])
        return None if numbers is None else (words[0], *numbers)
    return None
