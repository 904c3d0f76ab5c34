"""The words of texts: names and numbers."""

LETTERS = "abcdefghijklmnopqrstuvwxyz"
DIGITS = "0123456789"


def has_digits_only(word):
    """Tell whether all signs of a word, perhaps none, are digits."""
    return all([sign in DIGITS for sign in word])


def is_name(word):
    """Tell whether a string is a name: 1 to 20 letters and digits, the first one a letter."""
    if not 1 <= len(word) <= 20 or word[0] not in LETTERS:
        return False
    return all([sign in LETTERS or sign in DIGITS for sign in word])


def is_number(word):
    """Tell whether a string is a number: 1 to 9 digits without a leading zero."""
    if not 1 <= len(word) <= 9 or not has_digits_only(word):
        return False
    return word == "0" or word[0] != "0"


def numbers_of(words):
    """Return the tuple of the numbers that the words are, None if a word is none."""
    if not all([is_number(word) for word in words]):
        return None
    return tuple([int(word) for word in words])
