"""Whether patches live, and which patches say the same."""

from nevertwice.bounds import bounds_of, need_patch
from nevertwice.errors import Dead
from nevertwice.floors import Floor
from nevertwice.regions import (empty_paper, judge_region, keys_inside, region_paper_holds, sure_highs_of,
                                sure_lows_of)


def does_live(patch):
    """Whether some floor has the patch."""
    need_patch(patch)
    return empty_paper(bounds_of(patch)) is None


def judge_patch(patch):
    """A paper that says whether the patch lives."""
    need_patch(patch)
    return judge_region(bounds_of(patch))


def patch_holds(patch, thing):
    """Whether any value is a right paper for the patch."""
    need_patch(patch)
    return region_paper_holds(bounds_of(patch), thing)


def living_bounds(patch):
    """The bounds of a patch; raises the errors for any value that is no patch, and for a dead one."""
    need_patch(patch)
    bounds = bounds_of(patch)
    paper = empty_paper(bounds)
    if paper is not None:
        raise Dead(paper)
    return bounds


def a_floor(patch):
    """A regular floor that has the patch."""
    one, other = keys_inside(living_bounds(patch))
    return Floor(one, other)


def sure_lows(patch):
    """The tuple of the five sure lows."""
    return sure_lows_of(living_bounds(patch))


def sure_highs(patch):
    """The tuple of the five sure highs."""
    return sure_highs_of(living_bounds(patch))


def _what_is_said(bounds):
    """The sure lows and the sure highs, by which it is told what a living patch says."""
    return (sure_lows_of(bounds), sure_highs_of(bounds))


def do_say_the_same(one, other):
    """Whether exactly the same floors have two living patches."""
    said = _what_is_said(living_bounds(one))
    return said == _what_is_said(living_bounds(other))


def _what_is_left(patch, corner):
    return tuple([other for other in patch if other != corner])


def _is_spare(patch, corner, said):
    """Whether the patch says this also if a corner is left out."""
    left = _what_is_left(patch, corner)
    return len(left) > 0 and _what_is_said(bounds_of(left)) == said


def is_lean(patch):
    """Whether no corner can be left out without a change of what the patch says."""
    said = _what_is_said(living_bounds(patch))
    return not any([_is_spare(patch, corner, said) for corner in patch])


def a_lean_patch(patch):
    """A lean patch within the patch that says the same."""
    said = _what_is_said(living_bounds(patch))
    lean = patch
    for corner in patch:
        # A corner that cannot be left out of a patch cannot be left out of a lesser one that says the same.
        if _is_spare(lean, corner, said):
            lean = _what_is_left(lean, corner)
    return lean
