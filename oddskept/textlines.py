"""The lines of texts: how they are cut and in which order they may come."""

from oddskept.errors import BadText

END = "end"


def lines_of(text):
    """Return the list of the lines of a text, without their line feeds."""
    if text and not text.endswith("\n"):
        raise BadText(text.count("\n") + 1)
    return text.split("\n")[:-1]


def words_of(line, depth):
    """Return the words of a line behind so many blanks, [] if its blanks are wrong."""
    if not line.startswith(" " * depth):
        return []
    words = line[depth:].split(" ")
    return [] if "" in words else words


def entries_of(text, entry_of, follow):
    """Return the list of the entries of the lines of a text.

    An entry is a pair (head, content); `entry_of(line)` is None for a malformed line.
    `follow` tells the heads that may come behind each head, "" being the head of the
    first line's forerunner, and END the end of the text.
    """
    entries = []
    head = ""
    for line in lines_of(text):
        entry = entry_of(line)
        if entry is None or entry[0] not in follow[head]:
            raise BadText(len(entries) + 1)
        entries.append(entry)
        head = entry[0]
    if END not in follow[head]:
        raise BadText(len(entries) + 1)
    return entries
