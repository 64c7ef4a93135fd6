"""Bars: the straight lines on which the tiles of a floor lie."""

from nevertwice.checks import are_plain_integers, is_ascending, is_direction, is_plain_integer
from nevertwice.corners import need_direction, opposite_row, point_of
from nevertwice.crossings import point_by_heights
from nevertwice.errors import BadBar, BadBars, BadCount, TooMany
from nevertwice.fives import stepped, with_part
from nevertwice.golden import ZERO, integer_below, is_below, minus, need_golden, plus, quotient, sign, times
from nevertwice.regions import greatest, judge_region, least, region_paper_holds
from nevertwice.ribbons import across, need_tile_of
from nevertwice.tiles import corners_of, edges_of, is_low

MOST_BARS = 64
NO_BOUNDS = (None, None, None, None, None)
ONE = (1, 0, 1)
G = (0, 1, 1)
# 1 - g, the low bound of phases; the high one is 1.
LEAST_PHASE = (1, -1, 1)
# g - 1, which is 1 / g.
LESSER = (-1, 1, 1)
# (2 g - 1) / 2 and (3 g + 1) / 4: by these a height is worked out from g x + y.
HEIGHT_SCALE = (-1, 2, 2)
HEIGHT_SHIFT = (1, 3, 4)
# 2 - g and 3 - g: g x + y is 3 - g times the number of a bar, less 2 - g times its phase and key.
PHASE_PART = (2, -1, 1)
NUMBER_PART = (3, -1, 1)


def is_bar(thing):
    """Whether any value is a tuple of a direction and two integers."""
    return are_plain_integers(thing, 3) and is_direction(thing[0])


def _need_bar(thing):
    if not is_bar(thing):
        raise BadBar(thing)


def _need_count(thing):
    if not is_plain_integer(thing):
        raise BadCount(thing)


def _bar_offset(bar):
    """y - (g - 1) x, which is the phase in a floor whose key is 0."""
    _, x, y = bar
    return (x + y, -x, 1)


def phase_of(floor, bar):
    """The phase of a bar in a floor, whether the floor has it or not."""
    _need_bar(bar)
    return minus(_bar_offset(bar), floor.all_keys[bar[0]])


def _is_phase_below(floor, bar, bound):
    """Whether the phase is below a bound; the side decides ties."""
    order = sign(minus(phase_of(floor, bar), bound))
    if order == 0:
        return floor.side[bar[0]] == 1
    return order < 0


def has_bar(floor, thing):
    """Whether any value is a bar that the floor has."""
    if not is_bar(thing):
        return False
    return _is_phase_below(floor, thing, ONE) and not _is_phase_below(floor, thing, LEAST_PHASE)


def _bar_numbered(floor, direction, number):
    """The bar of the floor with this number."""
    # A phase below 1 is an x above this number.
    bound = times(minus((number - 1, 0, 1), floor.all_keys[direction]), LESSER)
    x = integer_below(bound) + 1
    bar = (direction, x, number - x)
    # Only if the bound is an integer, the side may decide for the bar with the phase 1 instead.
    return bar if has_bar(floor, bar) else (direction, x - 1, number - x + 1)


def bar_of(floor, direction, number):
    """The bar of the floor with this direction and this number."""
    need_direction(direction)
    _need_count(number)
    return _bar_numbered(floor, direction, number)


def height_of(bar):
    """The height at which a bar lies."""
    _need_bar(bar)
    _, x, y = bar
    return minus(times(HEIGHT_SCALE, (y, x, 1)), HEIGHT_SHIFT)


def _bar_not_above(floor, direction, height):
    """The bar of the floor with the greatest height that is not above this one."""
    goal = quotient(plus(height, HEIGHT_SHIFT), HEIGHT_SCALE)
    # With 1, which no phase exceeds, in the place of the phase the number is right, or it is one too great.
    beyond = times(PHASE_PART, plus(floor.all_keys[direction], ONE))
    number = integer_below(quotient(plus(goal, beyond), NUMBER_PART))
    bar = _bar_numbered(floor, direction, number)
    if is_below(height, height_of(bar)):
        return _bar_numbered(floor, direction, number - 1)
    return bar


def bar_below(floor, direction, height):
    """The bar of the floor with the greatest height that is not above this one."""
    need_direction(direction)
    need_golden(height)
    return _bar_not_above(floor, direction, height)


def bars_between(floor, direction, low, high, *, most=400):
    """The bars of the floor with heights from low to high, in the order of their numbers."""
    need_direction(direction)
    need_golden(low)
    need_golden(high)
    before = _bar_not_above(floor, direction, low)
    last = _bar_not_above(floor, direction, high)
    start = before[1] + before[2]
    if is_below(height_of(before), low):
        start += 1
    end = last[1] + last[2] + 1
    if end - start > most:
        raise TooMany(most)
    return tuple([_bar_numbered(floor, direction, number) for number in range(start, end)])


def _bars_of_low(foot, first, second):
    """The five bars of a low tile whose second direction is the first one plus 1 or 2."""
    is_near = (second - first) % 5 == 1
    bars = []
    for j in range(5):
        x = foot[j]
        y = foot[j - 1] + foot[(j + 1) % 5]
        if is_near and j in (first, second):
            x += 1
        if not is_near and j == (first + 1) % 5:
            y += 1
        bars.append((j, x, y))
    return tuple(bars)


def bars_of(tile):
    """The tuple of the five bars of a tile, for the directions 0 to 4."""
    is_low_tile = is_low(tile)
    _, first, second = tile
    if (second - first) % 5 > 2:
        first, second = second, first
    if is_low_tile:
        return _bars_of_low(tile[0], first, second)
    bars = _bars_of_low(opposite_row(corners_of(tile)[3]), first, second)
    return tuple([(j, 1 - x, 1 - y) for j, x, y in bars])


def _crossing_place(edge, direction, height):
    """How far onward an edge is crossed at this height, None if it is not."""
    corner, way = edge
    start = point_of(corner)
    end = point_of(stepped(corner, way, 1))
    gap = minus(height, start[direction])
    climb = minus(end[direction], start[direction])
    if sign(gap) * sign(minus(end[direction], height)) <= 0:
        return None
    begin = minus(start[(direction + 1) % 5], start[direction - 1])
    further = minus(minus(end[(direction + 1) % 5], end[direction - 1]), begin)
    return plus(begin, times(quotient(gap, climb), further))


def along_bar(floor, tile, direction, onward=True):
    """The next tile of the floor with the same bar of this direction, onward or the other way."""
    need_tile_of(floor, tile)
    need_direction(direction)
    height = height_of(bars_of(tile)[direction])
    crossed = []
    for edge in edges_of(tile):
        place = _crossing_place(edge, direction, height)
        if place is not None:
            crossed.append((edge, place))
    (edge, place), (other_edge, other_place) = crossed
    is_other_onward = is_below(place, other_place)
    return across(floor, tile, other_edge if is_other_onward == bool(onward) else edge)


def crossing_of(one, other):
    """The point at which two bars of different directions lie."""
    _need_bar(one)
    _need_bar(other)
    if one[0] == other[0]:
        raise BadBar(other)
    return point_by_heights(one[0], height_of(one), other[0], height_of(other))


def _are_told_bars(thing):
    """Whether any value is an ascending tuple of 1 to 64 bars."""
    if not isinstance(thing, tuple) or not 1 <= len(thing) <= MOST_BARS:
        return False
    return all([is_bar(part) for part in thing]) and is_ascending(thing)


def _bounds_told(bars):
    """The low and the high bounds of told bars; raises the error for any value that is none."""
    if not _are_told_bars(bars):
        raise BadBars(bars)
    lows = NO_BOUNDS
    highs = NO_BOUNDS
    for bar in bars:
        j = bar[0]
        low = minus(_bar_offset(bar), ONE)
        lows = with_part(lows, j, greatest((lows[j], low)))
        highs = with_part(highs, j, least((highs[j], plus(low, G))))
    return (lows, highs)


def judge_bars(bars):
    """A paper that says whether some floor has all told bars."""
    lows, highs = _bounds_told(bars)
    if bars[0][0] == bars[-1][0]:
        # By bars of one direction alone the region is a strip without end: any bounds at the next direction
        # cut a piece out of it and leave all else as it is.
        beside = (bars[0][0] + 1) % 5
        lows = with_part(lows, beside, ZERO)
        highs = with_part(highs, beside, ONE)
    return judge_region((lows, highs))


def bars_hold(bars, thing):
    """Whether any value is a right paper for told bars."""
    return region_paper_holds(_bounds_told(bars), thing)
