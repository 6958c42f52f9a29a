"""Whole rows of a disk, both ends, and where the next row of an end goes (point 15)."""

from cleanrows.errors import NoRoom, NoRow
from cleanrows.rowtexts import read_row

COLD_KIND = "carry"


def row_at(disk, stretch, place):
    """The whole row at a place, None where there is none."""
    try:
        return read_row(disk.told(stretch, place))
    except NoRow:
        return None


def rows_in(disk, stretch):
    """The whole rows of a stretch, each as (row, stretch, place), by places."""
    found = []
    for place in range(disk.next_place(stretch)):
        row = row_at(disk, stretch, place)
        if row is not None:
            found.append((row, stretch, place))
    return found


def whole_rows(disk):
    """The whole rows of a disk, each as (row, stretch, place), by their numbers."""
    found = []
    for stretch in range(disk.stretches()):
        found.extend(rows_in(disk, stretch))
    return sorted(found, key=lambda one: one[0][1])


def end_of(disk, is_hot):
    """The stretch of the hot or the cold end, None where there is none."""
    end = None
    for row, stretch, place in whole_rows(disk):
        if (row[0] != COLD_KIND) == is_hot:
            end = stretch
    return end


def empties(disk):
    """The empty stretches, rising."""
    return [stretch for stretch in range(disk.stretches()) if disk.next_place(stretch) == 0]


def free_in(disk, end):
    """How many places of an end's stretch are free, 0 where there is no end."""
    return 0 if end is None else disk.places() - disk.next_place(end)


def next_stretch(disk, is_hot):
    """The stretch that the next row of the hot or the cold end goes to; NoRoom where there is none."""
    end = end_of(disk, is_hot)
    if free_in(disk, end) > 0:
        return end
    unwritten = empties(disk)
    if not unwritten:
        raise NoRoom("the end has no free place, and no stretch is empty")
    return unwritten[0]
