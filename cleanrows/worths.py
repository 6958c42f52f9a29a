"""The worth of a closed stretch, and the best one to clean (point 19)."""

from cleanrows.living import closed, last_number, living_in


def worth(disk, state, stretch):
    """The worth of a closed stretch, a fraction in lowest terms as (upper, lower)."""
    many = len(living_in(state, stretch))
    upper = (disk.places() - many) * age_of(disk, state, stretch)
    lower = disk.places() + many
    divisor = common_divisor(upper, lower)
    return (upper // divisor, lower // divisor)


def age_of(disk, state, stretch):
    """Next less a stretch's last number; next itself where it has none."""
    last = last_number(disk, stretch)
    return state.next_number() if last is None else state.next_number() - last


def common_divisor(number, other):
    """The greatest common divisor of two numbers, the one that is not 0 where the other is."""
    while other != 0:
        number, other = other, number % other
    return number


def best(disk, state, kind):
    """The best closed stretch by "worth" or by "least", None where there is none."""
    found = None
    for stretch in closed(disk):
        # They rise: of several that are alike the first one stays.
        if found is None or is_better(disk, state, kind, stretch, found):
            found = stretch
    return found


def is_better(disk, state, kind, stretch, other):
    """Whether a closed stretch is better, by this kind, than another one."""
    if kind == "least":
        return len(living_in(state, stretch)) < len(living_in(state, other))
    upper, lower = worth(disk, state, stretch)
    other_upper, other_lower = worth(disk, state, other)
    return upper * other_lower > other_upper * lower
