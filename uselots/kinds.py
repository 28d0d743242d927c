"""The kinds of values, told apart strictly: True is not 1, and a list is no tuple."""

LETTERS = "abcdefghijklmnopqrstuvwxyz"
FIGURES = "0123456789"
# No number that is worked out is greater, nor less than the negative of this.
GREATEST = 9999


def is_text(value):
    return type(value) is str


def is_integer(value):
    return type(value) is int


def is_tuple(value):
    return type(value) is tuple


def is_row(value, many):
    """Whether value is a tuple of just so many items."""
    return type(value) is tuple and len(value) == many


def is_between(value, least, most):
    """Whether value is an integer from least to most."""
    return is_integer(value) and least <= value <= most


def clamped(number):
    """The number, or the nearest one that is not beyond the bounds."""
    return max(-GREATEST, min(GREATEST, number))


def is_count(value):
    return is_integer(value) and value >= 1


def is_name(word):
    """Whether a string is a name: one to eight letters or figures, a letter ahead."""
    if not 1 <= len(word) <= 8 or word[0] not in LETTERS:
        return False
    return all([sign in LETTERS or sign in FIGURES for sign in word])


def integer_of(word):
    """The integer that a word tells, None if Python would not write one so."""
    digits = word.removeprefix("-")
    if digits == "" or not all([sign in FIGURES for sign in digits]):
        return None
    if digits[0] == "0" and word != "0":
        return None
    return int(word)


def ascends(keys):
    """Whether each one of keys, a list, is more than the one ahead of it."""
    return all([keys[at - 1] < keys[at] for at in range(1, len(keys))])
