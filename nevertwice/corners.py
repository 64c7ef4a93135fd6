"""Rows of five integers: corners, their shadows and points, and the motions that are done to them."""

from nevertwice.checks import are_plain_integers, is_direction, is_plain_integer
from nevertwice.errors import BadCorner, BadCount, BadDirection, BadMotion, BadNumber, BadPoint, BadRow
from nevertwice.fives import five_by_rule, led_by, stepped
from nevertwice.golden import are_equal, is_golden, is_whole_golden, minus, plus, reduced, times

# g - 1, the number of the rule of points.
POINT_RULE = (-1, 1, 1)


def is_row(thing):
    """Whether any value is a tuple of five integers."""
    return are_plain_integers(thing, 5)


def is_corner_row(thing):
    """Whether any value is a row with a sum from 1 to 4."""
    return is_row(thing) and 1 <= sum(thing) <= 4


def is_step(thing):
    """Whether any value is a row with the sum 0."""
    return is_row(thing) and sum(thing) == 0


def need_corner(thing):
    """Raises the error for any value that is not a corner."""
    if not is_corner_row(thing):
        raise BadCorner(thing)


def _need_row(thing):
    if not is_row(thing):
        raise BadRow(thing)


def need_direction(thing):
    """Raises the error for any value that is not a direction."""
    if not is_direction(thing):
        raise BadDirection(thing)


def level_of(corner):
    """The sum of a corner."""
    need_corner(corner)
    return sum(corner)


def near_sum(row, direction):
    """The number without g in the shadow of a row: what stands at a direction and on both sides of it."""
    return row[direction - 1] + row[direction] + row[(direction + 1) % 5]


def shadow_of(row):
    """The five whole golden numbers of a row."""
    _need_row(row)
    return tuple([(near_sum(row, r), -row[r], 1) for r in range(5)])


def row_of(one, other, total):
    """The row with this sum whose shadow begins with one and other."""
    for number in (one, other):
        if not is_whole_golden(number):
            raise BadNumber(number)
    if not is_plain_integer(total):
        raise BadCount(total)
    near_zero, minus_zero, _ = reduced(one)
    near_one, minus_one, _ = reduced(other)
    at_zero = -minus_zero
    at_one = -minus_one
    at_two = near_one - at_zero - at_one
    at_four = near_zero - at_zero - at_one
    at_three = total - at_zero - at_one - at_two - at_four
    return (at_zero, at_one, at_two, at_three, at_four)


def neighbour(corner, direction, up):
    """The upper or the lower neighbour of a corner, None if that is not a corner."""
    need_corner(corner)
    need_direction(direction)
    row = stepped(corner, direction, 1 if up else -1)
    return row if is_corner_row(row) else None


def point_of(row):
    """The point of a row."""
    _need_row(row)
    point = []
    for j in range(5):
        beside = row[j - 1] + row[(j + 1) % 5]
        further = row[j - 2] + row[(j + 2) % 5]
        point.append(reduced((2 * row[j] - beside, beside - further, 2)))
    return tuple(point)


def point_by(one, other):
    """The point that begins with these two golden numbers."""
    # What is no golden number is refused when it is reduced.
    return five_by_rule(POINT_RULE, reduced(one), reduced(other))


def is_point(thing):
    """Whether any value is a tuple of five golden numbers that obey the rule of points."""
    if not isinstance(thing, tuple) or len(thing) != 5:
        return False
    if not all([is_golden(height) for height in thing]):
        return False
    # The rule at the directions 1 to 3 fixes the last three; then it holds at 4 and 0 as well.
    by_rule = point_by(thing[0], thing[1])
    return all([are_equal(height, right) for height, right in zip(thing, by_rule)])


def square(one, other):
    """The square of two points."""
    for point in (one, other):
        if not is_point(point):
            raise BadPoint(point)
    total = (0, 0, 1)
    for height, against in zip(one, other):
        difference = minus(height, against)
        total = plus(total, times(difference, difference))
    return times((2, 0, 5), total)


def is_motion(thing):
    """Whether any value is a tuple (q, m, o) with q from 0 to 4, m and o 0 or 1."""
    return are_plain_integers(thing, 3) and 0 <= thing[0] <= 4 and 0 <= thing[1] <= 1 and 0 <= thing[2] <= 1


def need_motion(thing):
    """Raises the error for any value that is not a motion."""
    if not is_motion(thing):
        raise BadMotion(thing)


def opposite_row(row):
    """The row (1, 1, 1, 1, 1) - row."""
    return tuple([1 - part for part in row])


def done(motion, corner):
    """The corner to which the motion is done: mirrored, then turned, then the opposite."""
    need_motion(motion)
    need_corner(corner)
    row = led_by(motion, corner)
    return opposite_row(row) if motion[2] else row


def direction_done(motion, direction):
    """The direction to which the motion leads this one."""
    need_motion(motion)
    need_direction(direction)
    turns, is_mirrored, _ = motion
    return (turns - direction) % 5 if is_mirrored else (turns + direction) % 5


def both(first, second):
    """The motion that does first and then second."""
    need_motion(first)
    need_motion(second)
    # The direction 0 is led to what the turns of both together are.
    turns = direction_done(second, first[0])
    return (turns, first[1] ^ second[1], first[2] ^ second[2])


def undone(motion):
    """The motion that leads back."""
    need_motion(motion)
    turns, is_mirrored, is_opposite = motion
    return motion if is_mirrored else (-turns % 5, is_mirrored, is_opposite)
