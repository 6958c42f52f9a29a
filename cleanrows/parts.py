"""The parts that texts are made of: whole numbers, names and words (points 2 and 5)."""

FIGURES = "0123456789"
LETTERS = "abcdefghijklmnopqrstuvwxyz"
MOST_FIGURES = 18
MOST_LETTERS = 6
MOST_SIGNS = 20


def is_whole(value):
    """Whether a value of any kind is a whole number."""
    # Python counts True and False among the integers; the document does not.
    return isinstance(value, int) and not isinstance(value, bool)


def is_within(value, least, most):
    """Whether a value of any kind is a whole number between these, both of them counted in."""
    return is_whole(value) and least <= value <= most


def is_made_of(text, signs, most):
    """Whether a text has one to so many signs, all of them among the given ones."""
    return 1 <= len(text) <= most and all([sign in signs for sign in text])


def is_number_text(text):
    """Whether a text is a number from 0 on of at most eighteen figures, as str writes it."""
    if not is_made_of(text, FIGURES, MOST_FIGURES):
        return False
    return text == "0" or text[0] != "0"


def is_name(text):
    """Whether a text is a name."""
    return is_made_of(text, LETTERS, MOST_LETTERS)


def is_word(text):
    """Whether a text is a word."""
    return is_made_of(text, LETTERS + FIGURES, MOST_SIGNS)


class NoPart(ValueError):
    """A word that is not of the kind which is due; whoever reads a whole text tells this as a refusal of its own."""


class Words:
    """The words of a text, one blank between, of whatever signs each, taken one behind the other."""

    def __init__(self, text):
        self.words = text.split(" ")
        self.taken = 0

    def take_word(self):
        """The next word, of whatever signs."""
        if self.is_at_end():
            raise NoPart("there is no further word")
        self.taken += 1
        return self.words[self.taken - 1]

    def take_number(self):
        """The next word, where it is a number."""
        word = self.take_word()
        if not is_number_text(word):
            raise NoPart("this word is no number")
        return int(word)

    def take_name(self):
        """The next word, where it is a name."""
        word = self.take_word()
        if not is_name(word):
            raise NoPart("this word is no name")
        return word

    def take_plain(self):
        """The next word, where it is one as rows have them."""
        word = self.take_word()
        if not is_word(word):
            raise NoPart("this word has signs that no row's word has, or too many")
        return word

    def is_at_end(self):
        """Whether all words are taken."""
        return self.taken == len(self.words)

    def take_end(self):
        """Nothing, where all words are taken."""
        if not self.is_at_end():
            raise NoPart("a further word stands behind the end")
