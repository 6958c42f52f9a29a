"""Room, and by which stretches it is made with least carried (points 24 to 26)."""

from cleanrows.ends import empties, end_of, free_in
from cleanrows.living import closed, living_in


def room(disk):
    """How many hot rows can be put."""
    return room_with(disk, len(empties(disk)))


def room_with(disk, many):
    """The room of a disk if so many of its stretches were empty."""
    # One empty stretch is kept for what is carried.
    return free_in(disk, end_of(disk, True)) + disk.places() * max(many - 1, 0)


def cold_room(disk):
    """How many rows can be carried (point 23)."""
    return free_in(disk, end_of(disk, False)) + disk.places() * len(empties(disk))


def cleaned(disk, state, stretches):
    """(room, carried) when closed stretches were cleaned one after another; None where one would be refused."""
    free = cold_room(disk)
    carried = 0
    for stretch in stretches:
        many = len(living_in(state, stretch))
        if many > free:
            return None
        carried += many
        free += disk.places() - many
    # A stretch that is a cold end has a row: less than a stretch of what is free is there, the rest is empty ones.
    return (room_with(disk, free // disk.places()), carried)


def plan(disk, state, use):
    """(stretches, carried, room) for a use of so many rows; None where no choice makes the room."""
    stretches = by_living(disk, state)
    for many in range(len(stretches) + 1):
        told = cleaned(disk, state, stretches[:many])
        if told is not None and told[0] >= use:
            return (stretches[:many], told[1], told[0])
    return None


def paper(disk, state, use):
    """The room, or None, for each number of stretches below the plan's, or to all of them."""
    stretches = by_living(disk, state)
    found = plan(disk, state, use)
    below = len(stretches) + 1 if found is None else len(found[0])
    rooms = []
    for many in range(below):
        told = cleaned(disk, state, stretches[:many])
        rooms.append(None if told is None else told[0])
    return rooms


def by_living(disk, state):
    """The closed stretches, sorted by living and then by number."""
    return sorted(closed(disk), key=lambda stretch: (len(living_in(state, stretch)), stretch))
