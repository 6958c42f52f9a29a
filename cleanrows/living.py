"""What lives in a stretch and what is waste, closed stretches and last numbers (point 18)."""

from cleanrows.ends import end_of, rows_in


def living_in(state, stretch):
    """The births whose spot is in a stretch, by their places."""
    found = [(place, birth) for birth, at, place in state.spots() if at == stretch]
    return [birth for place, birth in sorted(found)]


def waste(disk, state, stretch):
    """How many places of a stretch are written and do not live."""
    return disk.next_place(stretch) - len(living_in(state, stretch))


def closed(disk):
    """The stretches that are neither empty nor an end, rising."""
    ends = (end_of(disk, True), end_of(disk, False))
    return [
        stretch for stretch in range(disk.stretches())
        if disk.next_place(stretch) > 0 and stretch not in ends]


def last_number(disk, stretch):
    """The greatest number of a stretch's whole rows, None where there is none."""
    return max([row[1] for row, at, place in rows_in(disk, stretch)], default=None)
