"""Worms: the rows of hexagons in which floors with the same keys differ, and pieces of such rows."""

from nevertwice.barlines import G, ONE, PHASE_PART, bar_of, phase_of
from nevertwice.checks import is_direction, is_plain_integer, is_tuple_of
from nevertwice.corners import is_row, need_direction, shadow_of
from nevertwice.errors import AtTheEdge, BadCount, BadHexagon, BadNumber
from nevertwice.fives import stepped
from nevertwice.floors import has_corner, whole_keys
from nevertwice.gaprows import LONG, agreement, gaps_of, is_phase
from nevertwice.golden import integer_below, is_whole_golden, minus, quotient, reduced, sign, times
from nevertwice.tiles import star_of

NEAR = "near"
FAR = "far"


def is_hexagon(thing):
    """Whether any value is (k, r, kind) with a row k of the sum 1, a direction r and the word near or far."""
    if not is_tuple_of(thing, 3) or not is_row(thing[0]) or sum(thing[0]) != 1:
        return False
    return is_direction(thing[1]) and isinstance(thing[2], str) and thing[2] in (NEAR, FAR)


def _need_hexagon(thing):
    if not is_hexagon(thing):
        raise BadHexagon(thing)


def _directions_of(hexagon):
    """The three directions of a hexagon, ascending."""
    _, r, kind = hexagon
    by = 1 if kind == NEAR else 2
    return sorted([(r - by) % 5, r, (r + by) % 5])


def _plus_directions(hexagon):
    """The directions whose rows are added to k for the plus corner."""
    _, r, kind = hexagon
    return [j for j in _directions_of(hexagon) if kind == NEAR and j != r]


def _minus_directions(hexagon):
    """The directions whose rows are added to k for the minus corner: those that the plus corner lacks."""
    above = _plus_directions(hexagon)
    return [j for j in _directions_of(hexagon) if j not in above]


def _raised(row, directions):
    for j in directions:
        row = stepped(row, j, 1)
    return row


def whole_of(hexagon):
    """The whole number of a hexagon."""
    _need_hexagon(hexagon)
    foot, r, kind = hexagon
    number = shadow_of(foot)[r]
    return number if kind == NEAR else minus(number, ONE)


def rim_of(hexagon):
    """The ascending tuple of the six corners of the rim."""
    inner = inner_corners(hexagon)
    corners = [hexagon[0]]
    for j in _directions_of(hexagon):
        corners = corners + [stepped(corner, j, 1) for corner in corners]
    return tuple(sorted([corner for corner in corners if corner not in inner]))


def inner_corners(hexagon):
    """The pair of the plus corner and the minus corner."""
    _need_hexagon(hexagon)
    foot = hexagon[0]
    return (_raised(foot, _plus_directions(hexagon)), _raised(foot, _minus_directions(hexagon)))


def tiles_in(hexagon, is_plus):
    """The ascending tuple of the three tiles around the plus corner, or around the minus corner."""
    _need_hexagon(hexagon)
    inner = _plus_directions(hexagon) if is_plus else _minus_directions(hexagon)
    directions = _directions_of(hexagon)
    tiles = []
    for left_out in directions:
        r, s = [j for j in directions if j != left_out]
        # The tile reaches from the inner corner along both directions, so its foot can differ along the third alone.
        foot = _raised(hexagon[0], [left_out] if left_out in inner else [])
        tiles.append((foot, r, s))
    return tuple(sorted(tiles))


def does_stand(floor, hexagon):
    """Whether the floor has all six corners of the rim."""
    return all([has_corner(floor, corner) for corner in rim_of(hexagon)])


def inner_corner(floor, hexagon):
    """The inner corner that the floor has if the hexagon stands, otherwise None."""
    if not does_stand(floor, hexagon):
        return None
    plus_corner, minus_corner = inner_corners(hexagon)
    return plus_corner if has_corner(floor, plus_corner) else minus_corner


def hexagon_at(floor, corner):
    """The hexagon that stands and of which the corner is an inner corner, None if there is none."""
    star = star_of(floor, corner)
    if len(star) != 3:
        return None
    foot = corner
    for j, by in star:
        foot = stepped(foot, j, min(by, 0))
    directions = [j for j, _ in star]
    # The three are r - 1, r, r + 1 or r - 2, r, r + 2, so their sum is 3 r, and 2 times 3 is 6.
    r = 2 * sum(directions) % 5
    return (foot, r, NEAR if (r + 1) % 5 in directions else FAR)


def _need_place(direction, whole, number):
    """Raises the errors for any values that do not tell a hexagon by its number."""
    need_direction(direction)
    if not is_whole_golden(whole):
        raise BadNumber(whole)
    if not is_plain_integer(number):
        raise BadCount(number)


def hexagon_by(floor, direction, whole, number):
    """The hexagon with this number of a direction and a whole golden number."""
    _need_place(direction, whole, number)
    a, b, _ = reduced(whole)
    beside = (direction + 1) % 5
    _, x, y = bar_of(floor, beside, number)
    is_near = gaps_of(floor, beside, number, 1) == LONG
    # The parts at the directions r, r + 1, r + 2, r - 2 and r - 1.
    parts = (-b, x, y + b, -a - b - y, 1 + a + b - x)
    if is_near:
        parts = (-b, x, y + b, 1 - a - b - y, a + b - x)
    return (tuple([parts[(j - direction) % 5] for j in range(5)]), direction, NEAR if is_near else FAR)


def _need_regular(floor):
    directions = whole_keys(floor)
    if len(directions) > 0:
        raise AtTheEdge(directions)


def piece_of(floor, direction, whole, number):
    """The least and the greatest number of the piece of a worm, None if the hexagon does not stand."""
    _need_regular(floor)
    _need_place(direction, whole, number)
    one = phase_of(floor, bar_of(floor, (direction + 1) % 5, number))
    other = minus(one, times(G, minus(floor.all_keys[direction], whole)))
    if not is_phase(other) or sign(one) != sign(other):
        return None
    ahead = agreement(one, other)
    # These phases tell the gaps that go ahead of the bar, backwards.
    back = agreement(minus(PHASE_PART, one), minus(PHASE_PART, other))
    return (number - back, number + ahead - 1)


def _whole_near(floor, direction, length):
    """A whole golden number so near to the key that hexagons that do not stand are more than length apart."""
    a = 1
    b = 0
    # Phases come again to within g times the distance from the key at the earliest after 1 / (3 - g) divided
    # by that; a + b g is a power of g, and the distance is less than 1 divided by it.
    while a + b < 4 * (length + 2):
        a, b = b, a + b
    scale = (a, b, 1)
    return quotient((integer_below(times(scale, floor.all_keys[direction])), 0, 1), scale)


def long_piece(floor, direction, length):
    """A pair of a whole golden number and a number from which on so many hexagons stand."""
    _need_regular(floor)
    need_direction(direction)
    if not is_plain_integer(length) or length < 1:
        raise BadCount(length)
    whole = _whole_near(floor, direction, length)
    # Hexagons that do not stand come in pairs, so one of these three stands, and the piece goes from pair to pair.
    number = 0
    piece = piece_of(floor, direction, whole, number)
    while piece is None:
        number += 1
        piece = piece_of(floor, direction, whole, number)
    return (whole, piece[0])
