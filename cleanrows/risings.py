"""Coming up: the state that the last mark and the rows behind it tell (points 16 and 17)."""

from cleanrows.ends import whole_rows
from cleanrows.errors import Gone, NoMark
from cleanrows.marks import read_mark
from cleanrows.states import State, first_state


def risen(disk):
    """The state that a disk comes up with from its mark."""
    marked = marked_state(disk)
    taken = rows_from(whole_rows(disk), marked.next_number())
    return state_behind(marked, taken, marked.mark_number())


def risen_all(disk):
    """The state that a disk comes up with from the beginning; Gone where a row is missing."""
    mark_number = marked_state(disk).mark_number()
    whole = whole_rows(disk)
    begun = first_state()
    taken = rows_from(whole, begun.next_number())
    if len(taken) < len(whole):
        raise Gone("not all rows from the beginning on are still there")
    return state_behind(begun, taken, mark_number)


def marked_state(disk):
    """The state of the whole mark of the greater number; NoMark where no side has a whole one."""
    states = [mark_at(disk, side) for side in (0, 1)]
    whole = [state for state in states if state is not None]
    if not whole:
        raise NoMark("no side has a whole mark")
    return max(whole, key=lambda state: state.mark_number())


def mark_at(disk, side):
    """The state of the whole mark at a side, None where there is none."""
    try:
        return read_mark(disk.side(side))
    except NoMark:
        return None


def rows_from(whole, number):
    """Of whole rows, by their numbers, those from a number on as long as there is no gap."""
    taken = []
    for row, stretch, place in whole:
        # Behind a gap all numbers are greater than the one that is due, so no further row is taken.
        if row[1] == number + len(taken):
            taken.append((row, stretch, place))
    return taken


def state_behind(begun, taken, mark_number):
    """The state that the taken rows lead to from the one that was begun with."""
    files = begun.files()
    spot_of = {birth: (stretch, place) for birth, stretch, place in begun.spots()}
    by_number = {row[1]: row for row, stretch, place in taken}
    for row, stretch, place in taken:
        if row[0] != "put" or is_group_whole(by_number, row[2]):
            do_row(files, row)
        # What is told later counts: rows stand by their numbers.
        spot_of[row[2] if row[0] == "carry" else row[1]] = (stretch, place)
    spots = [(birth,) + spot_of[birth] for birth in files.living()]
    return State(files, spots, begun.next_number() + len(taken), mark_number)


def is_group_whole(by_number, first):
    """Whether all rows of a group, from its first number to the one with end, are among these."""
    number = first
    while is_of_group(by_number.get(number), first):
        if by_number[number][3]:
            return True
        number += 1
    return False


def is_of_group(row, first):
    """Whether a row, or None, is a row of the group with this first number."""
    return row is not None and row[0] == "put" and row[2] == first


def do_row(files, row):
    """Do to files what a row's deed does; refused as files refuse it."""
    kind, number = row[0], row[1]
    if kind == "put":
        files.put(row[4], row[5], number)
    elif kind == "cut":
        files.cut(row[2], row[3])
    elif kind == "hold":
        files.hold(row[2])
    elif kind == "free":
        files.free(row[2])
