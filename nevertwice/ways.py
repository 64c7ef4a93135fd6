"""Shortest ways along edges between two corners of a floor, and the lines that they go over."""

from nevertwice.checks import is_tuple_of
from nevertwice.errors import TooMany
from nevertwice.fives import stepped
from nevertwice.floors import has_corner
from nevertwice.tiles import need_corner_of


def _need_two_corners(floor, one, other):
    need_corner_of(floor, one)
    need_corner_of(floor, other)


def _differences(one, other):
    """The sum of the five differences without signs."""
    return sum([abs(part - against) for part, against in zip(one, other)])


def steps_between(floor, one, other):
    """The least number of edges of a way between two corners."""
    _need_two_corners(floor, one, other)
    return _differences(one, other)


def parting_lines(floor, one, other, *, most=400):
    """The ascending tuple of the lines that part two corners."""
    _need_two_corners(floor, one, other)
    if _differences(one, other) > most:
        raise TooMany(most)
    lines = []
    for j in range(5):
        for m in range(min(one[j], other[j]), max(one[j], other[j])):
            lines.append((j, m))
    return tuple(lines)


def _corners_nearer(floor, corner, goal):
    """The corners of the floor that are joined to a corner by an edge and nearer to the goal."""
    found = []
    for j in range(5):
        if corner[j] != goal[j]:
            row = stepped(corner, j, 1 if corner[j] < goal[j] else -1)
            if has_corner(floor, row):
                found.append(row)
    return found


def a_way(floor, one, other, *, most=401):
    """A shortest way from one corner to the other."""
    _need_two_corners(floor, one, other)
    if _differences(one, other) + 1 > most:
        raise TooMany(most)
    way = [one]
    while way[-1] != other:
        # Each corner has the number of lines that part it from the goal as its distance, so some corner
        # beside it is nearer by one, and it does not matter which one is taken.
        way.append(_corners_nearer(floor, way[-1], other)[0])
    return tuple(way)


def way_holds(floor, one, other, thing):
    """Whether any value is a shortest way from one corner to the other."""
    _need_two_corners(floor, one, other)
    if not is_tuple_of(thing, _differences(one, other) + 1):
        return False
    if not all([has_corner(floor, part) for part in thing]):
        return False
    if thing[0] != one or thing[-1] != other:
        return False
    return all([_differences(corner, thing[at]) == 1 for at, corner in enumerate(thing[1:])])


def corners_between(floor, one, other, *, most=400):
    """The ascending tuple of all corners of the floor that are in some shortest way."""
    _need_two_corners(floor, one, other)
    steps = _differences(one, other)
    # A way alone has one corner more than steps.
    if steps + 1 > most:
        raise TooMany(most)
    found = {one: True}
    last = [one]
    for _ in range(steps):
        further = {}
        for corner in last:
            for row in _corners_nearer(floor, corner, other):
                further[row] = True
        found.update(further)
        if len(found) > most:
            raise TooMany(most)
        last = list(further)
    return tuple(sorted(found))
