"""Names, numbers and words: what lines are made of."""

LETTERS = "abcdefghijklmnopqrstuvwxyz"
FIGURES = "0123456789"
MOST_LETTERS = 12
MOST_FIGURES = 61


def _has_only(text, signs):
    for sign in text:
        if sign not in signs:
            return False
    return True


def is_whole(thing):
    """Whether a thing is a whole number."""
    # A truth is an int to Python, but no number here.
    return isinstance(thing, int) and not isinstance(thing, bool)


def is_among(thing, least, most):
    """Whether a thing is a whole number from least to most."""
    return is_whole(thing) and least <= thing <= most


def is_name(thing):
    """Whether a thing is a text of 1 to 12 small letters."""
    if not isinstance(thing, str):
        return False
    return 1 <= len(thing) <= MOST_LETTERS and _has_only(thing, LETTERS)


def number_text(number):
    """A number, written by its figures."""
    return str(number)


def number_of(word):
    """The number that a text of 1 to 61 figures writes; None of all else."""
    if not isinstance(word, str) or not 1 <= len(word) <= MOST_FIGURES:
        return None
    # int() alone would take signs, blanks, underscores and foreign figures.
    if not _has_only(word, FIGURES):
        return None
    if word[0] == "0" and word != "0":
        return None
    return int(word)


def words_of(line):
    """The words of a line; None where they don't stand with one blank between."""
    if not isinstance(line, str):
        return None
    # Split at the blank alone: other white space may stand within a word.
    words = line.split(" ")
    if "" in words:
        return None
    return words
