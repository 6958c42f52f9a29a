"""The desk: a disk and a house that are led by rows of words (point 27)."""

from cleanrows.disks import Disk
from cleanrows.errors import (
    HeldAlready, NoDeed, NoFile, NoHouse, NoMark, NoPlace, NoRoom, NotBlank, NotClosed, NotHeld, Stopped)
from cleanrows.houses import House, house_of
from cleanrows.parts import NoPart, Words
from cleanrows.worths import best

MOST_PAIRS = 8
KINDS = ("worth", "least")

# What stands behind a deed's first word, by that word; pairs stand behind one another to the end.
PARTS = {
    "put": ("name", "pairs"),
    "cut": ("name", "number"),
    "hold": ("name",),
    "free": ("name",),
    "mark": (),
    "clean": ("number",),
    "best": ("kind",),
    "stop": ("number",),
    "rise": (),
    "new": (),
}
WITHOUT_HOUSE = ("stop", "rise", "new")


class Desk:
    """A desk; what it takes changes its disk and its house."""

    def __init__(self, stretches, places):
        self.own_disk = Disk(stretches, places)
        self.own_house = None

    def house(self):
        """The house, None where there is none."""
        return self.own_house

    def take(self, text):
        """Do the deed that a text tells, and tell what came of it."""
        deed = read_deed(text)
        if self.own_house is None and deed[0] not in WITHOUT_HOUSE:
            raise NoHouse("this desk has no house")
        try:
            return self.do(deed)
        except NoFile:
            return "NoFile"
        except NoPlace:
            return "NoPlace"
        except HeldAlready:
            return "HeldAlready"
        except NotHeld:
            return "NotHeld"
        except NotClosed:
            return "NotClosed"
        except NoRoom:
            return "NoRoom"
        except NoMark:
            return "NoMark"
        except NotBlank:
            return "NotBlank"
        except Stopped:
            return "Stopped"

    def do(self, deed):
        """Do a deed, and tell whether there was something to be done."""
        name = deed[0]
        if name == "best":
            return self.clean_best(deed[1])
        if name == "stop":
            self.own_disk.stop(deed[1])
        elif name == "rise":
            self.rise()
        elif name == "new":
            # Where there is a house, its disk is not blank: so a stop here never leaves an older one.
            self.own_house = House(self.own_disk)
        else:
            do_in_house(self.own_house, deed)
        return "done"

    def rise(self):
        """Come up with a copy of the disk, which is the desk's from then on."""
        disk = self.own_disk.copied()
        self.own_house = house_of(disk)
        self.own_disk = disk

    def clean_best(self, kind):
        """Clean the best closed stretch, where there is one."""
        house = self.own_house
        house.refuse_if_over()
        stretch = best(house.disk(), house.state(), kind)
        if stretch is None:
            return "none"
        house.clean(stretch)
        return "done"


def do_in_house(house, deed):
    """Do a deed that is a house's own."""
    name = deed[0]
    if name == "put":
        house.put(deed[1], deed[2])
    elif name == "cut":
        house.cut(deed[1], deed[2])
    elif name == "hold":
        house.hold(deed[1])
    elif name == "free":
        house.free(deed[1])
    elif name == "mark":
        house.mark()
    else:
        house.clean(deed[1])


def read_deed(text):
    """The deed that a text tells, its first word and the parts behind; NoDeed, of anything else."""
    if not isinstance(text, str):
        raise NoDeed("this is no text")
    words = Words(text)
    try:
        deed = take_deed(words)
        words.take_end()
    except NoPart:
        raise NoDeed("this text tells no deed")
    return deed


def take_deed(words):
    """The deed that the next words tell."""
    name = words.take_word()
    if name not in PARTS:
        raise NoPart("no deed begins with this word")
    return [name] + [take_part(words, kind) for kind in PARTS[name]]


def take_part(words, kind):
    """The next part of a deed, of this kind."""
    if kind == "name":
        return words.take_name()
    if kind == "number":
        return words.take_number()
    if kind == "pairs":
        return take_pairs(words)
    word = words.take_word()
    if word not in KINDS:
        raise NoPart("there is no best by this word")
    return word


def take_pairs(words):
    """One to eight pairs of a place and a word, to the end of the words."""
    pairs = []
    while not pairs or not words.is_at_end():
        place = words.take_number()
        pairs.append((place, words.take_plain()))
    if len(pairs) > MOST_PAIRS:
        raise NoPart("a group has at most eight rows")
    return pairs
