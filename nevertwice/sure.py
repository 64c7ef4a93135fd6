"""Which corners are in all floors that have a patch, in none of them, or in some."""

from nevertwice.bounds import bounds_of, does_bound_below, own_bounds
from nevertwice.checks import are_plain_integers, is_plain_integer, is_tuple_of
from nevertwice.corners import need_corner
from nevertwice.errors import BadCount, TooMany
from nevertwice.fives import stepped, with_part
from nevertwice.floors import Floor
from nevertwice.golden import is_below
from nevertwice.patches import living_bounds
from nevertwice.regions import (are_keys_inside, empty_paper, empty_paper_holds, greatest, keys_inside, least,
                                sums_at, sure_highs_of, sure_lows_of)
from nevertwice.tiles import found_next


def _living_bounds_and_corner(patch, corner):
    """The bounds of the patch, after the errors for patch and corner."""
    bounds = living_bounds(patch)
    need_corner(corner)
    return bounds


def _bounds_with(patch, corner):
    """The bounds of the patch with a corner, which may have one corner more than a patch."""
    return bounds_of(patch + (corner,))


def _sums_for(bounds, corner, direction):
    """The seven sums that an own bound of the corner is compared with: low ones for a low bound."""
    lows, highs = bounds
    if does_bound_below(corner):
        return sums_at(lows, highs, direction)
    return sums_at(highs, lows, direction)


def _does_reach(corner, own, number):
    """Whether a sum or sure bound, not None, lies so far that the own bound says nothing new."""
    return not is_below(number, own) if does_bound_below(corner) else not is_below(own, number)


def _direction_left_open(corner, sure_bounds):
    """The first direction at which the own bound lies beyond the sure one of its kind, None if there is none."""
    for direction, own in enumerate(own_bounds(corner)):
        if not _does_reach(corner, own, sure_bounds[direction]):
            return direction
    return None


def _sure_bounds_for(bounds, corner):
    """The sure bounds of the kind of the corner's own bounds."""
    return sure_lows_of(bounds) if does_bound_below(corner) else sure_highs_of(bounds)


def is_sure(patch, corner):
    """Whether all floors that have the patch have the corner."""
    bounds = _living_bounds_and_corner(patch, corner)
    return _direction_left_open(corner, _sure_bounds_for(bounds, corner)) is None


def is_barred(patch, corner):
    """Whether no floor that has the patch has the corner."""
    _living_bounds_and_corner(patch, corner)
    return empty_paper(_bounds_with(patch, corner)) is not None


def is_open(patch, corner):
    """Whether some floors that have the patch have the corner, and some have not."""
    bounds = _living_bounds_and_corner(patch, corner)
    if _direction_left_open(corner, _sure_bounds_for(bounds, corner)) is None:
        return False
    return empty_paper(_bounds_with(patch, corner)) is None


def _numbers_that_reach(bounds, corner, sure_bounds):
    """For each direction the number of a sum that is the sure bound."""
    return tuple([_sums_for(bounds, corner, r).index(sure_bounds[r]) for r in range(5)])


def _bounds_without(bounds, corner, direction):
    """The bounds of the floors of a patch that lack the corner because of this direction."""
    lows, highs = bounds
    own = own_bounds(corner)[direction]
    if does_bound_below(corner):
        highs = with_part(highs, direction, least((highs[direction], own)))
    else:
        lows = with_part(lows, direction, greatest((lows[direction], own)))
    return (lows, highs)


def judge_sure(patch, corner):
    """A paper that says whether the corner is sure, barred or open."""
    bounds = _living_bounds_and_corner(patch, corner)
    sure_bounds = _sure_bounds_for(bounds, corner)
    direction = _direction_left_open(corner, sure_bounds)
    if direction is None:
        return ("sure", _numbers_that_reach(bounds, corner, sure_bounds))
    both = _bounds_with(patch, corner)
    paper = empty_paper(both)
    if paper is not None:
        return ("barred", paper)
    return ("open", keys_inside(both), keys_inside(_bounds_without(bounds, corner, direction)))


def _do_numbers_hold(bounds, corner, thing):
    """Whether any value is a tuple of numbers of sums, one for each direction, that make the corner sure."""
    if not are_plain_integers(thing, 5) or min(thing) < 0 or max(thing) > 6:
        return False
    for direction, own in enumerate(own_bounds(corner)):
        number = _sums_for(bounds, corner, direction)[thing[direction]]
        if number is None or not _does_reach(corner, own, number):
            return False
    return True


def _do_floors_part(patch, bounds, corner, with_it, without_it):
    """Whether any two values are keys of regular floors with the patch, one with the corner, one without it."""
    both = _bounds_with(patch, corner)
    if not are_keys_inside(both, with_it) or not are_keys_inside(bounds, without_it):
        return False
    return not are_keys_inside(both, without_it)


def sure_holds(patch, corner, thing):
    """Whether any value is a right paper for the corner."""
    bounds = _living_bounds_and_corner(patch, corner)
    if is_tuple_of(thing, 3) and thing[0] == "open":
        return _do_floors_part(patch, bounds, corner, thing[1], thing[2])
    if not is_tuple_of(thing, 2):
        return False
    kind, told = thing
    if kind == "sure":
        return _do_numbers_hold(bounds, corner, told)
    return kind == "barred" and empty_paper_holds(_bounds_with(patch, corner), told)


def first_not_sure(bounds, corners):
    """The first of the corners that is not sure in the region, with keys 0 and 1 of a regular floor that lacks it;
    None if all are sure."""
    lows = sure_lows_of(bounds)
    highs = sure_highs_of(bounds)
    for corner in corners:
        direction = _direction_left_open(corner, lows if does_bound_below(corner) else highs)
        if direction is not None:
            return (corner, keys_inside(_bounds_without(bounds, corner, direction)))
    return None


def _sure_among(bounds, corners):
    """Those of the corners that are sure."""
    lows = sure_lows_of(bounds)
    highs = sure_highs_of(bounds)
    return [corner for corner in corners
            if _direction_left_open(corner, lows if does_bound_below(corner) else highs) is None]


def _living_bounds_and_steps(patch, steps):
    """The bounds of the patch, after the errors for patch and steps."""
    bounds = living_bounds(patch)
    if not is_plain_integer(steps) or steps < 0:
        raise BadCount(steps)
    return bounds


def _sure_within(patch, bounds, steps, enough):
    """The sure corners that differ from some corner of the patch by at most so many steps: all of them,
    or only more than enough."""
    # Any one floor that has the patch has them all, and as many steps along its edges lead to them.
    one, other = keys_inside(bounds)
    floor = Floor(one, other)
    found = {corner: True for corner in patch}
    last = list(patch)
    sure = list(patch)
    many = 0
    while many < steps and (enough is None or len(sure) <= enough):
        last = found_next(floor, last, found)
        sure.extend(_sure_among(bounds, last))
        many += 1
    return sure


def sure_corners(patch, steps, *, most=4096):
    """The ascending tuple of all sure corners within so many steps of the patch."""
    bounds = _living_bounds_and_steps(patch, steps)
    corners = _sure_within(patch, bounds, steps, most)
    if len(corners) > most:
        raise TooMany(most)
    return tuple(sorted(corners))


def sure_tiles(patch, steps, *, most=4096):
    """The ascending tuple of all tiles whose four corners are sure ones within so many steps of the patch."""
    bounds = _living_bounds_and_steps(patch, steps)
    corners = {corner: True for corner in _sure_within(patch, bounds, steps, None)}
    tiles = []
    for foot in corners:
        if sum(foot) <= 2:
            tiles.extend(_tiles_among(corners, foot))
    if len(tiles) > most:
        raise TooMany(most)
    return tuple(sorted(tiles))


def _tiles_among(corners, foot):
    """All tiles with this foot whose four corners are among the keys of a dict."""
    found = []
    for s in range(5):
        for r in range(s):
            beside = stepped(foot, r, 1)
            ahead = stepped(foot, s, 1)
            if beside in corners and ahead in corners and stepped(beside, s, 1) in corners:
                found.append((foot, r, s))
    return found
