"""The promises of a yard, and the faults that show that they are not kept.

The things of a yard are a dict in which each name has a floor or a patch.
"""

from nevertwice.bounds import bounds_of
from nevertwice.checks import are_plain_integers, is_direction, is_tuple_of
from nevertwice.corners import is_corner_row
from nevertwice.edges import is_worm
from nevertwice.floors import Floor, has_corner, whole_keys
from nevertwice.moving import judge_move, move_holds
from nevertwice.regions import are_keys_inside, bounds_together, empty_paper, empty_paper_holds, keys_inside
from nevertwice.sure import first_not_sure

LETTERS = "abcdefghijklmnopqrstuvwxyz"
LONGEST_NAME = 8
FLOOR = "floor"
PATCH = "patch"
DIRECTION = "direction"
# For each kind of promise what stands behind the word.
PROMISES = {
    "regular": ("floor",),
    "has": ("floor", "patch"),
    "lives": ("patch",),
    "follows": ("patch", "patch"),
    "never": ("patch", "patch"),
    "same": ("floor", "floor"),
    "worm": ("floor", "direction"),
}
NO_WORM = ("no worm",)


def is_name(thing):
    """Whether any value is a string of one to eight letters from a to z."""
    if not isinstance(thing, str) or not 1 <= len(thing) <= LONGEST_NAME:
        return False
    return all([letter in LETTERS for letter in thing])


def does_name(things, name, kind):
    """Whether any value is a name that stands for a floor, or for a patch."""
    return is_name(name) and name in things and isinstance(things[name], Floor) == (kind == FLOOR)


def _is_part(things, part, kind):
    return is_direction(part) if kind == DIRECTION else does_name(things, part, kind)


def is_promise(things, thing):
    """Whether any value is a promise whose names stand for what is asked."""
    if not isinstance(thing, tuple) or len(thing) == 0 or not isinstance(thing[0], str) or thing[0] not in PROMISES:
        return False
    kinds = PROMISES[thing[0]]
    if len(thing) != 1 + len(kinds):
        return False
    return all([_is_part(things, part, kind) for part, kind in zip(thing[1:], kinds)])


def _edge_fault(floor):
    directions = whole_keys(floor)
    return None if len(directions) == 0 else ("edge", directions)


def _lack_fault(floor, patch):
    for corner in patch:
        if not has_corner(floor, corner):
            return ("lacks", corner)
    return None


def _dead_fault(patch):
    return empty_paper(bounds_of(patch))


def _parted_fault(one, other):
    bounds = bounds_of(one)
    if empty_paper(bounds) is not None:
        return None
    found = first_not_sure(bounds, other)
    if found is None:
        return None
    corner, keys = found
    return ("parted", keys[0], keys[1], corner)


def _both_fault(one, other):
    bounds = bounds_together(bounds_of(one), bounds_of(other))
    if empty_paper(bounds) is not None:
        return None
    keys = keys_inside(bounds)
    return ("both", keys[0], keys[1])


def _unlike_fault(one, other):
    paper = judge_move(one, other)
    return None if paper[0] == "moved" else paper


def _worm_fault(floor, direction):
    return None if is_worm(floor, direction) else NO_WORM


FAULTS = {
    "regular": _edge_fault,
    "has": _lack_fault,
    "lives": _dead_fault,
    "follows": _parted_fault,
    "never": _both_fault,
    "same": _unlike_fault,
    "worm": _worm_fault,
}


def _parts_of(things, promise):
    """What a promise is about: floors, patches and directions."""
    return [things[part] if isinstance(part, str) else part for part in promise[1:]]


def fault_of(things, promise):
    """A right fault of a promise, None if it is kept."""
    parts = _parts_of(things, promise)
    find = FAULTS[promise[0]]
    return find(*parts)


def first_unkept(things, promises):
    """The first of the promises that is not kept, with a right fault; None if all are kept."""
    for promise in promises:
        fault = fault_of(things, promise)
        if fault is not None:
            return (promise, fault)
    return None


def _does_edge_fault_hold(parts, thing):
    directions = whole_keys(parts[0])
    if len(directions) == 0 or not is_tuple_of(thing, 2) or thing[0] != "edge":
        return False
    return are_plain_integers(thing[1], len(directions)) and thing[1] == directions


def _does_lack_fault_hold(parts, thing):
    if not is_tuple_of(thing, 2) or not is_corner_row(thing[1]):
        return False
    floor, patch = parts
    return thing == _lack_fault(floor, patch)


def _does_dead_fault_hold(parts, thing):
    return empty_paper_holds(bounds_of(parts[0]), thing)


def _does_parted_fault_hold(parts, thing):
    one, other = parts
    if not is_tuple_of(thing, 4) or thing[0] != "parted" or not is_corner_row(thing[3]) or thing[3] not in other:
        return False
    # Keys within the bounds are those of a regular floor.
    return are_keys_inside(bounds_of(one), thing[1:3]) and not has_corner(Floor(thing[1], thing[2]), thing[3])


def _does_both_fault_hold(parts, thing):
    one, other = parts
    if not is_tuple_of(thing, 3) or thing[0] != "both":
        return False
    return are_keys_inside(bounds_together(bounds_of(one), bounds_of(other)), thing[1:])


def _does_unlike_fault_hold(parts, thing):
    one, other = parts
    return move_holds(one, other, thing) and thing[0] != "moved"


def _does_worm_fault_hold(parts, thing):
    floor, direction = parts
    return thing == NO_WORM and not is_worm(floor, direction)


FAULT_CHECKS = {
    "regular": _does_edge_fault_hold,
    "has": _does_lack_fault_hold,
    "lives": _does_dead_fault_hold,
    "follows": _does_parted_fault_hold,
    "never": _does_both_fault_hold,
    "same": _does_unlike_fault_hold,
    "worm": _does_worm_fault_hold,
}


def does_fault_hold(things, promise, thing):
    """Whether any value is a right fault of a promise."""
    does_hold = FAULT_CHECKS[promise[0]]
    return does_hold(_parts_of(things, promise), thing)
