"""The refusals: each kind of failure is a class of its own, straight under CleanError."""


class CleanError(ValueError):
    """What all refusals of this program are."""


class NoRow(CleanError):
    """A text, or what is none, that no row is written as."""


class NoDisk(CleanError):
    """Sizes that no disk has."""


class Full(CleanError):
    """A stretch without a next place."""


class Stopped(CleanError):
    """A disk that has stopped, in this deed or before it."""


class NoFile(CleanError):
    """A name that no file has."""


class NoPlace(CleanError):
    """A place, or a number of places, that a file does not have."""


class HeldAlready(CleanError):
    """A name under which files are held already."""


class NotHeld(CleanError):
    """A name under which nothing is held."""


class NoFiles(CleanError):
    """A text, or what is none, that no files are written as."""


class NoMark(CleanError):
    """A text, or what is none, that no mark is written as; a disk without a whole mark."""


class NoRoom(CleanError):
    """Fewer free places than a deed needs."""


class Gone(CleanError):
    """A disk on which not all rows from the beginning on are still there."""


class NotClosed(CleanError):
    """A stretch that is not closed."""


class NotBlank(CleanError):
    """A disk on which signs were counted before."""


class NoDeed(CleanError):
    """A text, or what is none, that tells the desk no deed."""


class NoHouse(CleanError):
    """A desk without a house."""
