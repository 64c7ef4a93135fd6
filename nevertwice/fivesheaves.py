"""Five sheaves of parallel lines whose crossings are the tiles of a floor."""

from nevertwice.checks import is_direction, is_line, is_tuple_of
from nevertwice.corners import is_point, need_corner, need_direction
from nevertwice.crossings import crossing_row, meeting_point, plain_shifts
from nevertwice.errors import AtTheEdge, BadLine, BadPoint, BadShifts, NotAtTheEdge
from nevertwice.floors import Floor, is_within_window, whole_keys
from nevertwice.golden import ZERO, integer_above, is_golden, is_whole, minus, plus, reduced, times
from nevertwice.tiles import tiles_at

# 1 - g, by which the number at the direction itself counts in a key.
OWN_PART = (1, -1, 1)
THIRD = (1, 0, 3)


def _sum_of(numbers):
    total = ZERO
    for number in numbers:
        total = plus(total, number)
    return total


def _are_shifts(thing):
    if not is_tuple_of(thing, 5) or not all([is_golden(part) for part in thing]):
        return False
    return _sum_of(thing) == ZERO


def _key_of(shifts, r):
    """u[r - 1] + u[r + 1] + u[r] - g u[r]."""
    return _sum_of((shifts[r - 1], shifts[(r + 1) % 5], times(OWN_PART, shifts[r])))


class Sheaves:
    """Five sheaves of lines with these shifts."""

    def __init__(self, shifts):
        if not _are_shifts(shifts):
            raise BadShifts(shifts)
        self.shifts = tuple([reduced(part) for part in shifts])
        self.all_keys = tuple([_key_of(shifts, r) for r in range(5)])

    def __eq__(self, other):
        return isinstance(other, Sheaves) and self.shifts == other.shifts


def plain(floor):
    """The Sheaves with the plain shifts of the keys of a floor."""
    return Sheaves(plain_shifts(floor.all_keys))


def floor_of(sheaves, side=(0, 0, 0, 0, 0)):
    """The floor with the keys of the Sheaves and this side."""
    return Floor(sheaves.all_keys[0], sheaves.all_keys[1], side)


def _need_point(thing):
    if not is_point(thing):
        raise BadPoint(thing)


def moved_lines(sheaves, point):
    """The Sheaves whose lines are moved by the point."""
    _need_point(point)
    return Sheaves(tuple([minus(shift, height) for shift, height in zip(sheaves.shifts, point)]))


def _shifted(sheaves, point):
    """The five numbers c[j] + u[j] of a point."""
    return [plus(height, shift) for height, shift in zip(point, sheaves.shifts)]


def row_at(sheaves, point):
    """The row of the point."""
    _need_point(point)
    return tuple([integer_above(number) for number in _shifted(sheaves, point)])


def lines_at(sheaves, point):
    """The ascending tuple of the lines through the point."""
    _need_point(point)
    found = []
    for j, (a, b, d) in enumerate(_shifted(sheaves, point)):
        if b == 0 and d == 1:
            found.append((j, a))
    return tuple(found)


def _need_two_lines(one, other):
    for thing in (one, other):
        if not is_line(thing):
            raise BadLine(thing)
    if one[0] == other[0]:
        raise BadLine(other)


def meeting(sheaves, one, other):
    """The point at which two lines meet."""
    _need_two_lines(one, other)
    return meeting_point(sheaves.shifts, one, other)


def tile_of(floor, one, other):
    """The tile of two lines of the plain sheaves of the floor."""
    _need_two_lines(one, other)
    foot = crossing_row(floor.all_keys, floor.side, one, other)
    return (foot, min(one[0], other[0]), max(one[0], other[0]))


def edge_line(floor, direction):
    """The number of the edge line of a direction whose key is whole."""
    need_direction(direction)
    key = floor.all_keys[direction]
    if not is_whole(key):
        raise NotAtTheEdge()
    return -key[1]


def _need_regular_and_corner(floor, corner):
    directions = whole_keys(floor)
    if len(directions) > 0:
        raise AtTheEdge(directions)
    need_corner(corner)


def _point_inside(floor, corner):
    """A point inside of the region of a corner of a regular floor."""
    # The region is a polygon whose corners are the crossings of the tiles at the corner, at least three,
    # and the middle of any three corners of it lies inside.
    sheaves = plain(floor)
    points = []
    for foot, r, s in tiles_at(floor, corner)[:3]:
        points.append(meeting_point(sheaves.shifts, (r, foot[r]), (s, foot[s])))
    return tuple([times(THIRD, _sum_of([point[j] for point in points])) for j in range(5)])


def judge_row(floor, corner):
    """A paper that says whether a regular floor has a corner."""
    _need_regular_and_corner(floor, corner)
    for direction in range(5):
        if not is_within_window(floor, corner, direction):
            return ("out", direction)
    return ("met", _point_inside(floor, corner))


def row_holds(floor, corner, thing):
    """Whether any value is a right paper for a corner in a regular floor."""
    _need_regular_and_corner(floor, corner)
    if not is_tuple_of(thing, 2):
        return False
    kind, told = thing
    if kind == "met":
        return is_point(told) and row_at(plain(floor), told) == corner
    return kind == "out" and is_direction(told) and not is_within_window(floor, corner, told)
