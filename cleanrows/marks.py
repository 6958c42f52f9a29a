"""Marks: states written as texts that end in a sum, and read again (point 14)."""

from cleanrows.errors import NoMark
from cleanrows.filestexts import files_text, take_files
from cleanrows.parts import NoPart, Words
from cleanrows.rowtexts import body_of, summed
from cleanrows.states import State

FIRST_WORD = "mark"


def mark_text(state):
    """The text that a state is written as, as the mark of its number."""
    spots = state.spots()
    words = [FIRST_WORD, str(state.mark_number()), str(state.next_number()), files_text(state.files())]
    words.append(str(len(spots)))
    for birth, stretch, place in spots:
        words.extend([str(birth), str(stretch), str(place)])
    return summed("".join([word + " " for word in words]))


def read_mark(text):
    """The state that is written as this mark, its mark one more; NoMark, of anything else."""
    body = body_of(text)
    if body is None:
        raise NoMark("this is no text that ends in its sum")
    try:
        # A blank stands behind each word, behind the last one too.
        return state_of(Words(body[:-1]))
    except NoPart:
        raise NoMark("no mark is written as this text")


def state_of(words):
    """The state that the words of a mark tell, its mark one more than theirs."""
    if words.take_word() != FIRST_WORD:
        raise NoPart("a mark begins with another word")
    mark_number = words.take_number()
    next_number = words.take_number()
    files = take_files(words)
    spots = take_spots(words)
    words.take_end()
    if [birth for birth, stretch, place in spots] != files.living():
        raise NoPart("spots stand for just the living births, rising")
    return State(files, spots, next_number, mark_number + 1)


def take_spots(words):
    """The births that the next words tell, each with its stretch and its place."""
    spots = []
    for number in range(words.take_number()):
        birth = words.take_number()
        stretch = words.take_number()
        spots.append((birth, stretch, words.take_number()))
    return spots
