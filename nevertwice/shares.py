"""How often patches and stars come: the areas of the regions of their keys."""

from nevertwice.bounds import bounds_of
from nevertwice.checks import are_plain_integers, is_plain_integer
from nevertwice.errors import BadLevel, BadStar
from nevertwice.fives import stepped
from nevertwice.golden import ZERO, is_below, minus, plus, quotient, times
from nevertwice.patches import living_bounds
from nevertwice.regions import region_corners

# 5 g, the area of all kinds of tiles together.
WHOLE_AREA = (0, 5, 1)
# The stars of the levels 1 and 2, each with the four into which it is turned, but for those with five edges
# upward alone, which are turned into themselves.
TURNED_STARS = (
    (),
    (
        ((0, 1), (1, 1), (2, 1), (3, 1)),
        ((0, 1), (1, 1), (3, 1)),
    ),
    (
        ((0, -1), (0, 1), (1, 1), (2, -1), (2, 1), (3, 1), (4, 1)),
        ((0, -1), (0, 1), (1, 1), (2, 1), (3, 1), (4, 1)),
        ((0, -1), (1, 1), (2, -1), (3, 1), (4, 1)),
        ((0, -1), (1, 1), (4, 1)),
    ),
)
ROUND_STAR = ((0, 1), (1, 1), (2, 1), (3, 1), (4, 1))


def _is_left_of(one, other):
    """Whether a corner of a region has the lesser t_0, or the same one and the lesser t_1."""
    if one[0] == other[0]:
        return is_below(one[1], other[1])
    return is_below(one[0], other[0])


def region_of(patch):
    """The corners of the closed region as pairs (t_0, t_1), around it from the one that is leftmost."""
    corners = [keys[:2] for keys in region_corners(living_bounds(patch))]
    first = 0
    for at, corner in enumerate(corners):
        if _is_left_of(corner, corners[first]):
            first = at
    return tuple(corners[first:] + corners[:first])


def _area_within(bounds):
    """The area of the region of bounds."""
    corners = region_corners(bounds)
    double = ZERO
    for at, corner in enumerate(corners):
        before = corners[at - 1]
        double = plus(double, minus(times(before[0], corner[1]), times(corner[0], before[1])))
    return quotient(double, (2, 0, 1))


def area_of(patch):
    """The area of the region of a patch."""
    return _area_within(living_bounds(patch))


def share_of(patch):
    """The share of a patch: its area divided by 5 g."""
    return quotient(area_of(patch), WHOLE_AREA)


def _stars_upward(level):
    """All stars of the level 1 or 2."""
    found = [ROUND_STAR]
    for star in TURNED_STARS[level]:
        for q in range(5):
            found.append(tuple(sorted([((j + q) % 5, by) for j, by in star])))
    return found


def _opposite_star(star):
    return tuple(sorted([(j, -by) for j, by in star]))


def stars_of(level):
    """The ascending tuple of all stars that corners of this level have in regular floors."""
    if not is_plain_integer(level) or not 1 <= level <= 4:
        raise BadLevel(level)
    if level <= 2:
        return tuple(sorted(_stars_upward(level)))
    return tuple(sorted([_opposite_star(star) for star in _stars_upward(5 - level)]))


def _is_star(level, thing):
    """Whether any value is one of the stars of a level."""
    stars = stars_of(level)
    if not isinstance(thing, tuple) or not all([are_plain_integers(edge, 2) for edge in thing]):
        return False
    return thing in stars


def _corners_around(corner, star):
    """All corners of the tiles around a corner with this star, in no order, some of them twice."""
    # By tenths of a turn the edge (j, 1) stands at 2 j, and (j, -1) half a turn further.
    around = sorted([((2 * j + (0 if by == 1 else 5)) % 10, j, by) for j, by in star])
    found = [corner]
    for at, (_, j, by) in enumerate(around):
        _, before, before_by = around[at - 1]
        beside = stepped(corner, j, by)
        found.append(beside)
        found.append(stepped(beside, before, before_by))
    return found


def star_share(level, star):
    """The share of the corners of this level with exactly this star, reckoned over 5 g."""
    if not _is_star(level, star):
        raise BadStar(star)
    # Tiles that lie all around a corner leave no room for a further edge.
    corners = _corners_around((level, 0, 0, 0, 0), star)
    return quotient(_area_within(bounds_of(corners)), WHOLE_AREA)
