"""States: files, where their births stand, and the numbers that come next (point 13)."""

from cleanrows.files import Files
from cleanrows.parts import is_whole


class State:
    """A state; nothing is done to it."""

    def __init__(self, files, spots, next_number, mark_number):
        self.own_files = files.copied()
        self.spot_of = {birth: (stretch, place) for birth, stretch, place in spots}
        self.next_row = next_number
        self.next_mark = mark_number

    def files(self):
        """A copy of the files."""
        return self.own_files.copied()

    def spots(self):
        """Each living birth with its stretch and its place, rising."""
        return [(birth,) + self.spot_of[birth] for birth in sorted(self.spot_of)]

    def spot(self, birth):
        """The stretch and the place of a birth, None of what does not live."""
        # A dict would find True where 1 lives.
        return self.spot_of.get(birth) if is_whole(birth) else None

    def next_number(self):
        """The number that the next row has."""
        return self.next_row

    def mark_number(self):
        """The number that the next mark has."""
        return self.next_mark


def first_state():
    """The state at first."""
    return State(Files(), [], 0, 0)
