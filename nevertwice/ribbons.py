"""Ribbons: the tiles of one line, in the row in which they stand."""

from nevertwice.checks import is_direction, is_plain_integer
from nevertwice.errors import BadCount, BadDirection, BadTile
from nevertwice.fives import stepped
from nevertwice.fivesheaves import tile_of
from nevertwice.floors import has_tile
from nevertwice.golden import integer_below, times
from nevertwice.tiles import is_left

MOST_TILES = 400
# 1 / (2 g): the share of the tiles of a ribbon that have the direction after its own.
SHARE_OF_NEXT = (-1, 1, 2)


def need_tile_of(floor, tile):
    """Raises the error for any value that is not a tile of the floor."""
    if not has_tile(floor, tile):
        raise BadTile(tile)


def _need_direction_of(tile, direction):
    if not is_direction(direction) or direction not in (tile[1], tile[2]):
        raise BadDirection(direction)


def _tile_beside(floor, edge, is_on_left):
    """The tile of the floor on one side of an edge of it."""
    corner, j = edge
    for further in range(1, 5):
        s = (j + further) % 5
        reaches_up = (further <= 2) == is_on_left
        foot = corner if reaches_up else stepped(corner, s, -1)
        tile = (foot, min(j, s), max(j, s))
        if has_tile(floor, tile):
            return tile
    return None


def across(floor, tile, edge):
    """The other tile of the floor that has an edge of a tile."""
    need_tile_of(floor, tile)
    # What is no edge of the tile is refused when its side is asked for.
    return _tile_beside(floor, edge, not is_left(tile, edge))


def _other_direction(tile, direction):
    return tile[2] if direction == tile[1] else tile[1]


def _does_climb(tile, direction):
    """Whether onward on the ribbon of a direction is from the foot's edge to the other one."""
    # Onward the lines of the next two directions come with ascending numbers.
    return (_other_direction(tile, direction) - direction) % 5 in (1, 2)


def _tile_further(floor, tile, direction, onward):
    """The next tile of the ribbon of a direction, onward or the other way."""
    corner = tile[0]
    if _does_climb(tile, direction) == bool(onward):
        corner = stepped(corner, _other_direction(tile, direction), 1)
    # Onward c[j + 1] grows, and so what lies ahead of an edge lies on its left.
    return _tile_beside(floor, (corner, direction), bool(onward))


def next_tile(floor, tile, direction, onward=True):
    """The next tile of the ribbon of this direction, onward, or the other way if onward is false."""
    need_tile_of(floor, tile)
    _need_direction_of(tile, direction)
    return _tile_further(floor, tile, direction, onward)


def _place_on_ribbon(tile, direction):
    """A number that is one greater for each next tile onward on the ribbon of a direction."""
    foot = tile[0]
    place = foot[(direction + 1) % 5] + foot[(direction + 2) % 5] - foot[direction - 2] - foot[direction - 1]
    return place if _does_climb(tile, direction) else place - 1


def along(floor, tile, direction, many):
    """The tile that is many tiles further onward on the ribbon of this direction."""
    need_tile_of(floor, tile)
    _need_direction_of(tile, direction)
    if not is_plain_integer(many):
        raise BadCount(many)
    goal = _place_on_ribbon(tile, direction) + many
    # The lines of the next direction come as often as their share says, but for a few tiles, however far it is.
    beside = (direction + 1) % 5
    number = tile[0][beside] + integer_below(times((many, 0, 1), SHARE_OF_NEXT))
    found = tile_of(floor, (direction, tile[0][direction]), (beside, number))
    missing = goal - _place_on_ribbon(found, direction)
    for _ in range(abs(missing)):
        found = _tile_further(floor, found, direction, missing > 0)
    return found


def tiles_between(floor, one, other):
    """The integer many for which along leads from one to other on the ribbon that has both."""
    need_tile_of(floor, one)
    need_tile_of(floor, other)
    for direction in (one[1], one[2]):
        if direction in (other[1], other[2]) and one[0][direction] == other[0][direction]:
            return _place_on_ribbon(other, direction) - _place_on_ribbon(one, direction)
    raise BadTile(other)


def ribbon_of(floor, tile, direction, many):
    """The tuple of many tiles of the ribbon, the tile first, and onward."""
    need_tile_of(floor, tile)
    _need_direction_of(tile, direction)
    if not is_plain_integer(many) or not 0 <= many <= MOST_TILES:
        raise BadCount(many)
    found = []
    current = tile
    for _ in range(many):
        found.append(current)
        current = _tile_further(floor, current, direction, True)
    return tuple(found)
