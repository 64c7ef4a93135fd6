"""Whether patches live, and which patches say the same."""

from nevertwice.bounds import bounds_of, bounds_with, does_bound_below, need_patch, own_bounds
from nevertwice.errors import Dead
from nevertwice.floors import Floor
from nevertwice.regions import (bounds_together, does_sum_reach, empty_paper, judge_region, keys_inside,
                                region_paper_holds, sure_highs_of, sure_lows_of)


def does_live(patch):
    """Whether some floor has the patch."""
    need_patch(patch)
    return empty_paper(bounds_of(patch)) is None


def judge_patch(patch):
    """A paper that says whether the patch lives."""
    need_patch(patch)
    return judge_region(bounds_of(patch))


def patch_holds(patch, thing):
    """Whether any value is a right paper for the patch."""
    need_patch(patch)
    return region_paper_holds(bounds_of(patch), thing)


def living_bounds(patch):
    """The bounds of a patch; raises the errors for any value that is no patch, and for a dead one."""
    need_patch(patch)
    bounds = bounds_of(patch)
    paper = empty_paper(bounds)
    if paper is not None:
        raise Dead(paper)
    return bounds


def a_floor(patch):
    """A regular floor that has the patch."""
    one, other = keys_inside(living_bounds(patch))
    return Floor(one, other)


def sure_lows(patch):
    """The tuple of the five sure lows."""
    return sure_lows_of(living_bounds(patch))


def sure_highs(patch):
    """The tuple of the five sure highs."""
    return sure_highs_of(living_bounds(patch))


def _what_is_said(bounds):
    """The sure lows and the sure highs, by which it is told what a living patch says."""
    return (sure_lows_of(bounds), sure_highs_of(bounds))


def do_say_the_same(one, other):
    """Whether exactly the same floors have two living patches."""
    said = _what_is_said(living_bounds(one))
    return said == _what_is_said(living_bounds(other))


def _bounds_behind(patch):
    """For each place in the patch the bounds of the corners behind it."""
    found = [bounds_of(())]
    for corner in patch[:0:-1]:
        found.append(bounds_with(found[-1], corner))
    return found[::-1]


def _is_spare(bounds, corner):
    """Whether corners with these bounds say the same with the corner: whether it is sure for them."""
    is_low = does_bound_below(corner)
    for direction, own in enumerate(own_bounds(corner)):
        if not does_sum_reach(bounds, direction, own, is_low):
            return False
    return True


def is_lean(patch):
    """Whether no corner can be left out without a change of what the patch says."""
    living_bounds(patch)
    ahead = bounds_of(())
    for corner, behind in zip(patch, _bounds_behind(patch)):
        if _is_spare(bounds_together(ahead, behind), corner):
            return False
        ahead = bounds_with(ahead, corner)
    return True


def a_lean_patch(patch):
    """A lean patch within the patch that says the same."""
    living_bounds(patch)
    lean = []
    kept = bounds_of(())
    for corner, behind in zip(patch, _bounds_behind(patch)):
        # A corner that cannot be left out of a patch cannot be left out of a lesser one that says the same.
        if not _is_spare(bounds_together(kept, behind), corner):
            lean.append(corner)
            kept = bounds_with(kept, corner)
    return tuple(lean)
