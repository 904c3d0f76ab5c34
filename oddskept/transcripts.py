"""The text of a run."""

from oddskept.errors import BadShare
from oddskept.plans import Run
from oddskept.shares import Share
from oddskept.textlines import END, entries_of, words_of
from oddskept.words import numbers_of

WORDS = ("own", "side", "print", "begin", "end")
FOLLOW = {
    "": ("chance",),
    "chance": ("event", END),
    "event": ("event", END),
}


def write_run(run):
    """Return the transcript of a run."""
    lines = ["chance " + str(run.chance)]
    lines.extend([" ".join([str(one) for one in event]) for event in run.trace])
    return "\n".join(lines) + "\n"


def read_run(text):
    """Return the run with this transcript."""
    entries = entries_of(text, _entry, dict(FOLLOW))
    return Run(entries[0][1], [event for _, event in entries[1:]])


def _entry(line):
    """Return the entry of a line of the text, None if it is malformed."""
    words = words_of(line, 0)
    if len(words) == 2 and words[0] == "chance":
        share = _share(words[1])
        return None if share is None else ("chance", share)
    if len(words) == 4 and words[2] in WORDS:
        numbers = numbers_of([words[0], words[1], words[3]])
        return None if numbers is None else ("event", (numbers[0], numbers[1], words[2], numbers[2]))
    return None


def _share(word):
    """Return the share that is written so, None if there is none."""
    try:
        return Share.parse(word)
    except BadShare:
        return None
