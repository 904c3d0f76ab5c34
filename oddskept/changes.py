"""Tuples with one item changed."""


def with_item(row, at, one):
    """Return a tuple with another item at one index."""
    return row[:at] + (one,) + row[at + 1:]


def without_item(row, at):
    """Return a tuple without the item at one index."""
    return row[:at] + row[at + 1:]
