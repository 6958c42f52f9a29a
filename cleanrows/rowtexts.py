"""Rows written as texts that end in a sum, and read again (points 5 and 6)."""

from cleanrows.errors import NoRow
from cleanrows.parts import is_name, is_number_text, is_word

MODULUS = 65521

# What stands behind a row's first part, by that part.
PARTS = {
    "put": ("number", "number", "end", "name", "number", "word"),
    "cut": ("number", "name", "number"),
    "hold": ("number", "name"),
    "free": ("number", "name"),
    "carry": ("number", "number", "word"),
}


def sum_of(text):
    """The sum of a text."""
    total = 0
    for place, sign in enumerate(text, start=1):
        total += ord(sign) * place
    return total % MODULUS


def summed(body):
    """A body, the sum of it, and the sign that ends them."""
    return f"{body}{sum_of(body)};"


def body_of(text):
    """What stands ahead of the sum that a text ends in; None of anything that does not end so."""
    if not isinstance(text, str):
        return None
    body = text[:text.rfind(" ") + 1]
    return body if text == summed(body) else None


def row_text(row):
    """The text that a row is written as."""
    return summed("".join([part_text(part) + " " for part in row]))


def part_text(part):
    """The text that a part of a row is written as."""
    # str would write a row's end as True or False.
    if isinstance(part, bool):
        return "1" if part else "0"
    return str(part)


def read_row(text):
    """The row that is written as this text; NoRow, of anything else."""
    body = body_of(text)
    if body is None:
        raise NoRow("this is no text that ends in its sum")
    return row_of(body[:-1].split(" "))


def row_of(words):
    """The row whose parts are written as these words."""
    kinds = PARTS.get(words[0])
    if kinds is None or len(words) != len(kinds) + 1:
        raise NoRow("no row has so many parts behind such a first one")
    row = [words[0]]
    for kind, word in zip(kinds, words[1:]):
        row.append(read_part(kind, word))
    return tuple(row)


def read_part(kind, word):
    """The part of this kind that is written as this word."""
    if kind == "number" and is_number_text(word):
        return int(word)
    if kind == "end" and word in ("0", "1"):
        return word == "1"
    if kind == "name" and is_name(word):
        return word
    if kind == "word" and is_word(word):
        return word
    raise NoRow("a part of this row is not as its kind is written")
