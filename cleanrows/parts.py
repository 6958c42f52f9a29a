"""The parts that rows are made of: whole numbers, names and words (points 2 and 5)."""

FIGURES = "0123456789"
LETTERS = "abcdefghijklmnopqrstuvwxyz"
MOST_FIGURES = 18
MOST_LETTERS = 6
MOST_SIGNS = 20


def is_whole(value):
    """Whether a value of any kind is a whole number."""
    # Python counts True and False among the integers; the document does not.
    return isinstance(value, int) and not isinstance(value, bool)


def is_made_of(text, signs, most):
    """Whether a text has one to so many signs, all of them among the given ones."""
    return 1 <= len(text) <= most and all([sign in signs for sign in text])


def is_number_text(text):
    """Whether a text is a number from 0 on of at most eighteen figures, as str writes it."""
    if not is_made_of(text, FIGURES, MOST_FIGURES):
        return False
    return text == "0" or text[0] != "0"


def is_name(text):
    """Whether a text is a name."""
    return is_made_of(text, LETTERS, MOST_LETTERS)


def is_word(text):
    """Whether a text is a word."""
    return is_made_of(text, LETTERS + FIGURES, MOST_SIGNS)
