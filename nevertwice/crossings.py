"""Where two lines of different sheaves meet, and the row of this point also at the edge."""

from nevertwice.corners import POINT_RULE
from nevertwice.fives import five_by_rule, led_round
from nevertwice.golden import ZERO, integer_above, minus, plus, quotient, reduced


def plain_shifts(all_keys):
    """The plain shifts of five keys."""
    t_0 = all_keys[0]
    t_1 = all_keys[1]
    return (ZERO, ZERO, reduced(t_1), minus(minus(ZERO, t_0), t_1), reduced(t_0))


def point_by_heights(direction, height, other_direction, other_height):
    """The point that has these heights along two different directions."""
    if (other_direction - direction) % 5 > 2:
        direction, other_direction = other_direction, direction
        height, other_height = other_height, height
    next_height = other_height
    if (other_direction - direction) % 5 == 2:
        # The rule of points at the direction between the two tells its height.
        next_height = quotient(plus(height, other_height), POINT_RULE)
    return led_round(five_by_rule(POINT_RULE, height, next_height), direction)


def meeting_point(shifts, one, other):
    """The point at which two lines of different directions meet."""
    height = minus((one[1], 0, 1), shifts[one[0]])
    other_height = minus((other[1], 0, 1), shifts[other[0]])
    return point_by_heights(one[0], height, other[0], other_height)


def does_side_lift(side, one, other, direction):
    """Whether at the crossing of lines of two directions, where a line of a third one goes through, too,
    the side puts the row above the number of this line ([4.4])."""
    # The three are r - 1, r, r + 1 or r - 2, r, r + 2, so their sum is 3 r, and 2 times 3 is 6.
    middle = 2 * (one + other + direction) % 5
    others = [j for j in (one, other, direction) if j != middle]
    is_near = (others[0] - middle) % 5 in (1, 4)
    if is_near and direction != middle:
        return side[middle] == 1
    return side[middle] == -1


def crossing_row(all_keys, side, one, other):
    """The row of the crossing of two lines of the plain sheaves of a floor with these keys and this side."""
    shifts = plain_shifts(all_keys)
    point = meeting_point(shifts, one, other)
    row = []
    for j in range(5):
        height = plus(point[j], shifts[j])
        number = integer_above(height)
        is_further_line = height == (number, 0, 1) and j != one[0] and j != other[0]
        if is_further_line and does_side_lift(side, one[0], other[0], j):
            number += 1
        row.append(number)
    return tuple(row)
