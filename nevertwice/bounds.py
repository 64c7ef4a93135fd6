"""Patches, and the bounds that their corners set to the keys of the floors that have them."""

from nevertwice.checks import is_ascending
from nevertwice.corners import is_corner_row, near_sum, need_corner, need_direction
from nevertwice.errors import BadPatch
from nevertwice.floors import WINDOWS, has_corner
from nevertwice.regions import greatest, least, sums_at

MOST_CORNERS = 64
# The levels whose corners bound the keys from below; those of the others bound them from above.
LOW_LEVELS = (1, 3)


def is_patch(thing):
    """Whether any value is an ascending tuple of 1 to 64 corners."""
    if not isinstance(thing, tuple) or not 1 <= len(thing) <= MOST_CORNERS:
        return False
    return all([is_corner_row(part) for part in thing]) and is_ascending(thing)


def need_patch(thing):
    """Raises the error for any value that is not a patch."""
    if not is_patch(thing):
        raise BadPatch(thing)


def does_bound_below(corner):
    """Whether the own bounds of a corner are low bounds."""
    return sum(corner) in LOW_LEVELS


def own_bounds(corner):
    """The tuple of the five own bounds of a corner: low or high, by its level."""
    need_corner(corner)
    # A rest beyond the window is a key on the other side of the own bound.
    a, b = WINDOWS[sum(corner)]
    return tuple([(near_sum(corner, r) - a, -corner[r] - b, 1) for r in range(5)])


def _low_bounds_of(corners):
    own = [own_bounds(corner) for corner in corners if does_bound_below(corner)]
    return tuple([greatest([bounds[r] for bounds in own]) for r in range(5)])


def _high_bounds_of(corners):
    own = [own_bounds(corner) for corner in corners if not does_bound_below(corner)]
    return tuple([least([bounds[r] for bounds in own]) for r in range(5)])


def bounds_with(bounds, corner):
    """The bounds together with the own bounds of a corner."""
    lows, highs = bounds
    own = own_bounds(corner)
    if does_bound_below(corner):
        return (tuple([greatest(pair) for pair in zip(lows, own)]), highs)
    return (lows, tuple([least(pair) for pair in zip(highs, own)]))


def bounds_of(corners):
    """The low bounds and the high bounds of corners, be they a patch or not."""
    return (_low_bounds_of(corners), _high_bounds_of(corners))


def low_bounds(patch):
    """The tuple of the five low bounds, None for all of them if there are none."""
    need_patch(patch)
    return _low_bounds_of(patch)


def high_bounds(patch):
    """The tuple of the five high bounds, None for all of them if there are none."""
    need_patch(patch)
    return _high_bounds_of(patch)


def low_sums(patch, direction):
    """The tuple of the seven low sums at a direction, None for those that do not exist."""
    need_patch(patch)
    need_direction(direction)
    lows, highs = bounds_of(patch)
    return sums_at(lows, highs, direction)


def high_sums(patch, direction):
    """The tuple of the seven high sums at a direction, None for those that do not exist."""
    need_patch(patch)
    need_direction(direction)
    lows, highs = bounds_of(patch)
    return sums_at(highs, lows, direction)


def has_patch(floor, patch):
    """Whether the floor has all corners of a patch."""
    need_patch(patch)
    return all([has_corner(floor, corner) for corner in patch])
