"""Disks: stretches that are written place by place, two sides, and a stop at any sign (points 7 to 9)."""

from cleanrows.errors import Full, NoDisk, Stopped
from cleanrows.parts import is_within

LEAST_STRETCHES = 3
MOST_STRETCHES = 16
LEAST_PLACES = 2
MOST_PLACES = 32


class Disk:
    """A disk; what is done to it changes it alone."""

    def __init__(self, stretches, places):
        if not is_within(stretches, LEAST_STRETCHES, MOST_STRETCHES):
            raise NoDisk("a disk has 3 to 16 stretches")
        if not is_within(places, LEAST_PLACES, MOST_PLACES):
            raise NoDisk("a stretch has 2 to 32 places")
        self.width = places
        # One list a stretch, as long as its next place: None stands where an emptying that stopped went.
        self.written = [[] for number in range(stretches)]
        self.at_sides = [None, None]
        self.counted = 0
        # None: the disk was not told to stop.
        self.left = None
        self.has_stopped = False

    def stretches(self):
        """How many stretches there are."""
        return len(self.written)

    def places(self):
        """How many places each stretch has."""
        return self.width

    def next_place(self, stretch):
        """Where the next text of a stretch goes; behind its last place where it is full."""
        return len(self.written[stretch])

    def told(self, stretch, place):
        """The text at a place, None where nothing is written."""
        texts = self.written[stretch]
        return texts[place] if place < len(texts) else None

    def side(self, k):
        """The text at a side, None where none was put."""
        return self.at_sides[k]

    def signs(self):
        """How many signs were counted."""
        return self.counted

    def write(self, stretch, text):
        """Write a text at the next place of a stretch, and tell that place."""
        self.refuse_if_stopped()
        texts = self.written[stretch]
        place = len(texts)
        if place == self.width:
            raise Full("this stretch has no next place")
        texts.append(self.first_signs(text))
        self.refuse_if_stopped()
        return place

    def put_side(self, k, text):
        """Put a text at a side, in place of what was there."""
        self.refuse_if_stopped()
        self.at_sides[k] = self.first_signs(text)
        self.refuse_if_stopped()

    def empty(self, stretch):
        """Empty a stretch."""
        self.refuse_if_stopped()
        texts = self.written[stretch]
        done = self.spend(len(texts))
        if self.has_stopped:
            # Its next place stays, so what is emptied is not taken out of the list.
            for place in range(done):
                texts[place] = None
        else:
            texts.clear()
        self.refuse_if_stopped()

    def stop(self, many):
        """Tell the disk to stop behind so many signs more."""
        self.left = many

    def copied(self):
        """A disk just like this one, apart from it and without a stop."""
        other = Disk(self.stretches(), self.width)
        other.written = [list(texts) for texts in self.written]
        other.at_sides = list(self.at_sides)
        other.counted = self.counted
        return other

    def refuse_if_stopped(self):
        """Refuse the deed under way where the disk has stopped."""
        if self.has_stopped:
            raise Stopped("the disk has stopped")

    def spend(self, many):
        """Count the signs of a deed as far as there are any left, and tell how many; fewer stop the disk."""
        done = many
        if self.left is not None:
            done = min(many, self.left)
            self.left -= done
        self.counted += done
        self.has_stopped = done < many
        return done

    def first_signs(self, text):
        """Count the signs of a text, and tell those that are done."""
        done = self.spend(len(text))
        if done == 0:
            # Refused here, ahead of its first sign, it takes no place and what was there stays.
            self.refuse_if_stopped()
        return text[:done]
