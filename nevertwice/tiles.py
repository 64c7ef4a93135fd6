"""Tiles, their edges and marks, and what lies around a corner of a floor."""

from nevertwice.checks import is_direction, is_plain_integer, is_tuple_of
from nevertwice.corners import is_corner_row
from nevertwice.errors import BadCorner, BadCount, BadEdge, BadTile, TooMany
from nevertwice.fives import stepped
from nevertwice.floors import Floor, has_corner, has_edge, has_tile, is_rest_below
from nevertwice.golden import ZERO, minus

OUTER = "outer"
UP = "up"
DOWN = "down"


def need_corner_of(floor, corner):
    """Raises the error for any value that is not a corner of the floor."""
    if not has_corner(floor, corner):
        raise BadCorner(corner)


def _star_at(floor, corner):
    """The star of a corner that is known to be one of the floor."""
    found = []
    for j in range(5):
        for by in (-1, 1):
            if has_corner(floor, stepped(corner, j, by)):
                found.append((j, by))
    return sorted(found)


def star_of(floor, corner):
    """The ascending tuple of the edges at a corner: (j, 1) upward, (j, -1) downward."""
    need_corner_of(floor, corner)
    return tuple(_star_at(floor, corner))


def tiles_at(floor, corner):
    """The ascending tuple of all tiles of the floor that have the corner."""
    need_corner_of(floor, corner)
    found = []
    star = _star_at(floor, corner)
    for r, by_r in star:
        for s, by_s in star:
            foot = stepped(stepped(corner, r, min(by_r, 0)), s, min(by_s, 0))
            if has_tile(floor, (foot, r, s)):
                found.append((foot, r, s))
    return tuple(sorted(found))


def round_about(floor, corner, steps, *, most=4096):
    """The ascending tuple of all corners that can be reached along at most so many edges."""
    need_corner_of(floor, corner)
    if not is_plain_integer(steps) or steps < 0:
        raise BadCount(steps)
    found = {corner: True}
    last = [corner]
    many = 0
    while many < steps and len(found) <= most:
        last = found_next(floor, last, found)
        many += 1
    if len(found) > most:
        raise TooMany(most)
    return tuple(sorted(found))


def found_next(floor, last, found):
    """The corners one edge further that were not found before; they are noted as found."""
    further = []
    for corner in last:
        for j, by in _star_at(floor, corner):
            row = stepped(corner, j, by)
            if row not in found:
                found[row] = True
                further.append(row)
    return further


def is_tile_row(thing):
    """Whether any value is (k, r, s) with a corner k of the level 1 or 2 and directions r < s."""
    if not is_tuple_of(thing, 3) or not is_corner_row(thing[0]) or sum(thing[0]) > 2:
        return False
    return is_direction(thing[1]) and is_direction(thing[2]) and thing[1] < thing[2]


def need_tile(thing):
    """Raises the error for any value that is not a tile, of whichever floor."""
    if not is_tile_row(thing):
        raise BadTile(thing)


def corners_of(tile):
    """The tuple of foot, foot + e_r, foot + e_s and top."""
    need_tile(tile)
    foot, r, s = tile
    beside = stepped(foot, r, 1)
    return (foot, beside, stepped(foot, s, 1), stepped(beside, s, 1))


def edges_of(tile):
    """The tuple of the edges (k, r), (k, s), (k + e_s, r) and (k + e_r, s)."""
    need_tile(tile)
    foot, r, s = tile
    return ((foot, r), (foot, s), (stepped(foot, s, 1), r), (stepped(foot, r, 1), s))


def is_thick(tile):
    """Whether the two directions are near."""
    need_tile(tile)
    return (tile[2] - tile[1]) in (1, 4)


def is_low(tile):
    """Whether the foot has the level 1."""
    need_tile(tile)
    return sum(tile[0]) == 1


def marks_of(tile):
    """The tuple of the marks of the four edges of a tile."""
    need_tile(tile)
    inner = UP if is_thick(tile) == is_low(tile) else DOWN
    if is_low(tile):
        return (OUTER, OUTER, inner, inner)
    return (inner, inner, OUTER, OUTER)


def _place_of_edge(tile, thing):
    """The place of any value among the edges of a tile, None if it is no edge of it."""
    if not is_tuple_of(thing, 2) or not is_corner_row(thing[0]) or not is_direction(thing[1]):
        return None
    edges = edges_of(tile)
    return edges.index(thing) if thing in edges else None


def _is_left_at(tile, place):
    """Whether the tile lies left of its edge with this place."""
    _, r, s = tile
    is_along_r = place in (0, 2)
    gap = (s - r) % 5 if is_along_r else (r - s) % 5
    # The first two edges begin at the foot, and the tile reaches upward from them.
    return gap in (1, 2) if place < 2 else gap in (3, 4)


def does_fit(one, other):
    """Whether two tiles have an edge in common at which they lie on both sides and their marks meet."""
    need_tile(one)
    need_tile(other)
    for place, edge in enumerate(edges_of(one)):
        other_place = _place_of_edge(other, edge)
        # Two different tiles have at most one edge in common.
        if other_place is not None:
            do_marks_meet = marks_of(one)[place] == marks_of(other)[other_place]
            return do_marks_meet and _is_left_at(one, place) != _is_left_at(other, other_place)
    return False


def is_left(tile, edge):
    """Whether the tile lies left of one of its edges."""
    need_tile(tile)
    place = _place_of_edge(tile, edge)
    if place is None:
        raise BadEdge(edge)
    return _is_left_at(tile, place)


def mark_of(floor, edge):
    """The word of an edge of the floor."""
    if not has_edge(floor, edge):
        raise BadEdge(edge)
    corner, direction = edge
    if sum(corner) != 2:
        return OUTER
    return DOWN if is_rest_below(floor, corner, direction, (1, 0)) else UP


def opposite_floor(floor):
    """The floor with the opposite keys and the opposite side."""
    one = minus(ZERO, floor.all_keys[0])
    other = minus(ZERO, floor.all_keys[1])
    return Floor(one, other, tuple([-part for part in floor.side]))
