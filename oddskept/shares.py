"""Shares: exact fractions in lowest terms."""

from math import gcd

from oddskept.errors import BadShare
from oddskept.words import has_digits_only

MOST_DIGITS = 60


class Share:
    """A fraction in lowest terms with a bottom above 0."""

    def __init__(self, top, bottom=1):
        if bottom <= 0:
            raise BadShare("the bottom of a share is above 0")
        common = gcd(top, bottom)
        self.top = top // common
        self.bottom = bottom // common

    def __add__(self, other):
        return Share(self.top * other.bottom + other.top * self.bottom, self.bottom * other.bottom)

    def __sub__(self, other):
        return Share(self.top * other.bottom - other.top * self.bottom, self.bottom * other.bottom)

    def __mul__(self, other):
        return Share(self.top * other.top, self.bottom * other.bottom)

    def __eq__(self, other):
        return isinstance(other, Share) and self.top == other.top and self.bottom == other.bottom

    def __str__(self):
        return f"{self.top}/{self.bottom}"

    def at_most(self, other):
        """Tell whether this share is less than or equal to the other one."""
        return self.top * other.bottom <= other.top * self.bottom

    @staticmethod
    def parse(text):
        """Return the share that `str` writes as this text."""
        top, _, bottom = text.partition("/")
        if not _is_whole(top) or not _is_whole(bottom):
            raise BadShare("a share is written as a top, a slash and a bottom")
        share = Share(int(top), int(bottom))
        # The way back finds every other spelling: leading zeros, -0, and terms that are not the lowest.
        if str(share) != text:
            raise BadShare("a share is written in lowest terms")
        return share


def _is_whole(word):
    """Tell whether a word is digits, not too many, perhaps behind a minus."""
    digits = word.removeprefix("-")
    return 1 <= len(digits) <= MOST_DIGITS and has_digits_only(digits)


def mean(shares):
    """Return the sum of the shares divided by their number."""
    if len(shares) == 0:
        raise BadShare("no shares have no mean")
    total = Share(0)
    for share in shares:
        total = total + share
    return Share(total.top, total.bottom * len(shares))


def greatest(shares):
    """Return the greatest of shares that are at least 0, 0/1 if there are none."""
    best = Share(0)
    for share in shares:
        if best.at_most(share):
            best = share
    return best


def power(share, exponent):
    """Return the share multiplied by itself as often as the exponent tells."""
    result = Share(1)
    for _ in range(exponent):
        result = result * share
    return result
