"""Floors with the same keys: the sides that stand beside one another, and the turns between them."""

from nevertwice.checks import are_plain_integers, is_direction
from nevertwice.corners import need_direction
from nevertwice.errors import BadSide, NoSuchSide, NoWorm
from nevertwice.fives import with_part
from nevertwice.floors import Floor, sides, whole_keys


def _sides_of(floor):
    """The sides of all floors with the keys of the floor."""
    return sides(floor.all_keys[0], floor.all_keys[1])


def _changed(side, direction):
    return with_part(side, direction, -side[direction])


def is_worm(floor, direction):
    """Whether a direction is the direction of a worm of the floor."""
    return floor.side[direction] != 0 and _changed(floor.side, direction) in _sides_of(floor)


def sides_beside(floor):
    """The ascending tuple of all pairs of a direction of a worm and the side of the floor turned there."""
    return tuple([(r, _changed(floor.side, r)) for r in whole_keys(floor) if is_worm(floor, r)])


def turned(floor, direction):
    """The floor that is turned at a direction of a worm."""
    need_direction(direction)
    if not is_worm(floor, direction):
        raise NoWorm(direction)
    return with_side(floor, _changed(floor.side, direction))


def with_side(floor, side):
    """The floor with the same keys and this side."""
    try:
        return Floor(floor.all_keys[0], floor.all_keys[1], side)
    except BadSide as error:
        raise NoSuchSide(side) from error


def _unlike_signs(side, other):
    """The number of directions at which two sides are unlike."""
    return sum([1 for part, against in zip(side, other) if part != against])


def _first_turn(floor, other):
    """A direction of a worm at which the floor is turned towards a floor with another side."""
    # Each turn changes one sign alone, so on the shorter way round the ring all of them change unlike ones.
    unlike = [r for r, side in sides_beside(floor) if side[r] == other.side[r]]
    return unlike[0]


def turns_between(one, other):
    """Shortest turns that lead from one floor to another, None if their keys are not equal."""
    if one.all_keys != other.all_keys:
        return None
    turns = []
    floor = one
    while floor.side != other.side:
        turns.append(_first_turn(floor, other))
        floor = turned(floor, turns[-1])
    return tuple(turns)


def turns_hold(one, other, thing):
    """Whether any value is a tuple of shortest turns that lead from one floor to another."""
    if one.all_keys != other.all_keys or not are_plain_integers(thing, _unlike_signs(one.side, other.side)):
        return False
    floor = one
    for direction in thing:
        if not is_direction(direction) or not is_worm(floor, direction):
            return False
        floor = turned(floor, direction)
    return floor.side == other.side
