"""Tuples of five, one item for each direction, counted round."""

from nevertwice.golden import minus, times


def five_by_rule(factor, first, second):
    """Five golden numbers x with x[r - 1] + x[r + 1] = factor x[r], beginning with these two."""
    five = [first, second]
    while len(five) < 5:
        five.append(minus(times(factor, five[-1]), five[-2]))
    return tuple(five)


def led_round(five, many):
    """The five with what was at r - many now at r."""
    return tuple([five[(r - many) % 5] for r in range(5)])


def led_by(motion, five):
    """The five with what was at each direction now where the motion leads this direction."""
    turns, is_mirrored, _ = motion
    if is_mirrored:
        five = tuple([five[-r] for r in range(5)])
    return led_round(five, turns)


def with_part(five, direction, part):
    """The five with another part at one direction."""
    return five[:direction] + (part,) + five[direction + 1:]


def stepped(row, direction, by):
    """The row with so much more at one direction."""
    return with_part(row, direction, row[direction] + by)
