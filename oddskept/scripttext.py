"""The text of a script."""

from oddskept.errors import BadText
from oddskept.plainrun import ASKED, DONE
from oddskept.textlines import lines_of, words_of
from oddskept.words import is_name, is_number, numbers_of

INDENT = 2
KINDS = ("0", "1", "2")


class OpenPlace:
    """A place whose lines are still being read; `member` is the member of the child that is read."""

    def __init__(self):
        self.row = []
        self.children = []
        self.member = None

    def told(self):
        """Return the script of what has been read."""
        return (tuple(self.row), tuple(self.children))


def write_script(script):
    """Return the text of a script."""
    lines = []
    # The scripts that are still to be written, the next one last, with the lines ahead of them and their depths.
    waiting = [([], script, 0)]
    while waiting:
        ahead, (row, children), depth = waiting.pop()
        blanks = " " * (INDENT * depth)
        lines.extend(ahead)
        lines.append(f"{blanks}place")
        lines.extend([f"{blanks}move {kind} {port} {value}" for kind, port, value in row])
        for member, child in reversed(children):
            waiting.append(([blanks + _member_line(member)], child, depth + 1))
    return "\n".join(lines) + "\n"


def _member_line(member):
    """Return the line of a member without its indentation."""
    number, marks = member
    return " ".join(["member", str(number)] + [_written_mark(mark) for mark in marks])


def _written_mark(mark):
    """Return a mark as it is written."""
    if mark == ():
        return "idle"
    if mark[0] == DONE:
        return f"={mark[1]}"
    return f"{mark[1]}.{mark[2]}"


def read_script(text):
    """Return the script with this text."""
    trail = []
    head = ""
    for at, line in enumerate(lines_of(text)):
        depth, words = _cut(line)
        entry = _entry(words)
        if entry is None or not _may_come(head, len(trail) - 1, entry[0], depth):
            raise BadText(at + 1)
        head, content = entry
        while len(trail) > depth + 1:
            _close_last(trail)
        if head == "place":
            trail.append(OpenPlace())
        place = trail[-1]
        if head == "move":
            place.row.append(content)
        if head == "member":
            place.member = content
    if head in ("", "member"):
        raise BadText(text.count("\n") + 1)
    while len(trail) > 1:
        _close_last(trail)
    return trail[0].told()


def _close_last(trail):
    """Make the last place of the trail a child of the one before it."""
    script = trail.pop().told()
    trail[-1].children.append((trail[-1].member, script))


def _cut(line):
    """Return the depth and the words of a line, [] if its blanks are wrong."""
    depth = (len(line) - len(line.lstrip(" "))) // INDENT
    return depth, words_of(line, INDENT * depth)


def _may_come(head, open_depth, following, depth):
    """Tell whether a line of this head and depth may come behind one of that head, at the deepest open place."""
    if head in ("", "member"):
        return following == "place" and depth == open_depth + 1
    if following == "move":
        return depth == open_depth
    return following == "member" and depth <= open_depth


def _entry(words):
    """Return the head and the content of a line with these words, None if it is malformed."""
    if words == ["place"]:
        return ("place", ())
    if len(words) == 4 and words[0] == "move" and words[1] in KINDS:
        numbers = numbers_of(words[1:])
        return None if numbers is None else ("move", numbers)
    if len(words) > 2 and words[0] == "member" and is_number(words[1]):
        marks = [_mark(word) for word in words[2:]]
        return None if None in marks else ("member", (int(words[1]), tuple(marks)))
    return None


def _mark(word):
    """Return the mark that is written so, None if it is malformed."""
    if word == "idle":
        return ()
    if word.startswith("="):
        return (DONE, int(word[1:])) if is_number(word[1:]) else None
    # A word without a dot has nothing behind it, and nothing is not a number.
    deed, _, number = word.partition(".")
    return (ASKED, deed, int(number)) if is_name(deed) and is_number(number) else None
