"""Gathered floors: the same floor told by greater tiles, and floors that are cut into lesser ones."""

from nevertwice.checks import is_plain_integer
from nevertwice.corners import need_corner
from nevertwice.errors import BadCount
from nevertwice.floors import REGULAR_SIDE, Floor, is_rest_below
from nevertwice.golden import ZERO, minus, power, times
from nevertwice.tiles import need_corner_of

MOST_TIMES = 400


def gathered(floor):
    """The floor that is gathered once."""
    return gathered_times(floor, 1)


def cut_floor(floor):
    """The floor whose gathered floor it is."""
    return gathered_times(floor, -1)


def gathered_times(floor, many):
    """The floor that is gathered so many times, or, for many below 0, cut so many times."""
    if not is_plain_integer(many) or abs(many) > MOST_TIMES:
        raise BadCount(many)
    # Each time the keys are multiplied by -g, or divided by it.
    factor = power(many)
    side = floor.side
    if many % 2 == 1:
        factor = minus(ZERO, factor)
        side = tuple([-part for part in side])
    return Floor(times(factor, floor.all_keys[0]), times(factor, floor.all_keys[1]), side)


def is_great(floor, corner):
    """Whether a corner of the floor is one of the gathered floor, too."""
    need_corner_of(floor, corner)
    level = sum(corner)
    if level == 2:
        return all([is_rest_below(floor, corner, r, (1, 0)) for r in range(5)])
    if level == 3:
        return not any([is_rest_below(floor, corner, r, (2, -1)) for r in range(5)])
    return True


def gathered_corner(corner):
    """The corner as it is written in the gathered floor."""
    need_corner(corner)
    less = 0 if sum(corner) <= 2 else 1
    return tuple([corner[j - 1] + corner[(j + 1) % 5] - less for j in range(5)])


def cut_corner(corner):
    """The corner that is cut from a corner of the gathered floor."""
    need_corner(corner)
    more = 1 if sum(corner) <= 2 else 2
    return tuple([more - corner[j - 2] - corner[(j + 2) % 5] for j in range(5)])


def _remainders(keys):
    """What is left of two keys if whole golden numbers are taken off."""
    return [(a % d, b % d, d) for a, b, d in keys]


def _gathered_key(key):
    """-g times a key, but for whole golden numbers."""
    a, b, d = key
    return (-b % d, (-a - b) % d, d)


def round_length(floor):
    """The least number of gatherings, at least 1, that lead to the same floor but for a move."""
    start = _remainders(floor.all_keys[:2])
    keys = [_gathered_key(key) for key in start]
    many = 1
    # Each gathering changes the signs of the side.
    while keys != start or (many % 2 == 1 and floor.side != REGULAR_SIDE):
        keys = [_gathered_key(key) for key in keys]
        many += 1
    return many
