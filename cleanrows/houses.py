"""Houses: a disk and a state, the deeds that are done to both, and what is read (points 20 to 23)."""

from cleanrows.ends import next_stretch, row_at
from cleanrows.errors import NoRoom, NotBlank, NotClosed, Stopped
from cleanrows.living import closed, living_in
from cleanrows.marks import mark_text
from cleanrows.plans import cold_room, room
from cleanrows.risings import do_row, risen, state_behind
from cleanrows.rowtexts import row_text
from cleanrows.states import first_state


class House:
    """A house that begins with a blank disk; what is done to it changes it and its disk."""

    def __init__(self, disk):
        if disk.signs() > 0:
            raise NotBlank("signs were counted on this disk")
        self.begin(disk, first_state())
        self.mark()

    def begin(self, disk, state):
        """Go on from a state on a disk."""
        self.own_disk = disk
        self.now = state
        self.cold_rows = 0
        # So while the house writes: a stop on the way leaves it of no use.
        self.is_over = False

    def put(self, file, pairs):
        """Put words at places of a file, one pair after another, all of them or none."""
        first = self.now.next_number()
        last = first + len(pairs) - 1
        self.do_hot([
            ("put", number, first, number == last, file, place, word)
            for number, (place, word) in enumerate(pairs, start=first)])

    def cut(self, file, many):
        """Leave a file its first so many places."""
        self.do_hot([("cut", self.now.next_number(), file, many)])

    def hold(self, name):
        """Hold all files, as they are now, under a name."""
        self.do_hot([("hold", self.now.next_number(), name)])

    def free(self, name):
        """Hold a name no more."""
        self.do_hot([("free", self.now.next_number(), name)])

    def mark(self):
        """Put the state at its side."""
        self.refuse_if_over()
        number = self.now.mark_number()
        self.is_over = True
        self.own_disk.put_side(number % 2, mark_text(self.now))
        self.is_over = False
        self.now = state_behind(self.now, [], number + 1)

    def clean(self, stretch):
        """Carry what lives in a closed stretch, do a mark, and empty the stretch."""
        self.refuse_if_over()
        if stretch not in closed(self.own_disk):
            raise NotClosed("this stretch is not closed")
        births = living_in(self.now, stretch)
        if len(births) > cold_room(self.own_disk):
            raise NoRoom("more lives in this stretch than can be carried")
        self.carry(births)
        # Coming up needs no row of the stretch any more once the mark tells where the carried ones are.
        self.mark()
        self.is_over = True
        self.own_disk.empty(stretch)
        self.is_over = False

    def read(self, file, place):
        """The word at a place of a file."""
        return self.word_of(self.now.files().birth(file, place))

    def read_held(self, name, file, place):
        """The word at a place of a file as it is held under a name."""
        return self.word_of(self.now.files().of_held(name).birth(file, place))

    def files(self):
        """A copy of the files."""
        return self.now.files()

    def state(self):
        """The state."""
        return self.now

    def disk(self):
        """The disk itself."""
        return self.own_disk

    def carried(self):
        """How many cold rows this house wrote."""
        return self.cold_rows

    def do_hot(self, rows):
        """Do what hot rows tell, where neither the files nor the room refuse it."""
        self.refuse_if_over()
        files = self.now.files()
        for row in rows:
            do_row(files, row)
        if len(rows) > room(self.own_disk):
            raise NoRoom("this deed needs more rows than there is room for")
        self.write_rows(rows, True)

    def carry(self, births):
        """Write the words of births anew at the cold end."""
        first = self.now.next_number()
        rows = [("carry", number, birth, self.word_of(birth)) for number, birth in enumerate(births, start=first)]
        self.write_rows(rows, False)
        self.cold_rows += len(rows)

    def write_rows(self, rows, is_hot):
        """Write rows to an end; the state is then the one that coming up tells."""
        placed = []
        self.is_over = True
        for row in rows:
            stretch = next_stretch(self.own_disk, is_hot)
            placed.append((row, stretch, self.own_disk.write(stretch, row_text(row))))
        self.is_over = False
        self.now = state_behind(self.now, placed, self.now.mark_number())

    def word_of(self, birth):
        """The word of the row at a living birth's spot."""
        stretch, place = self.now.spot(birth)
        # Rows of put and of carry both have their word last.
        return row_at(self.own_disk, stretch, place)[-1]

    def refuse_if_over(self):
        """Refuse a deed of a house that is of no use any more."""
        if self.is_over:
            raise Stopped("a deed of this house was stopped")


class RisenHouse(House):
    """A house that comes up with a disk, and writes nothing by that."""

    def __init__(self, disk):
        self.begin(disk, risen(disk))


def house_of(disk):
    """The house that comes up with a disk; NoMark where it has no whole mark."""
    return RisenHouse(disk)
