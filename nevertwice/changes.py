"""The changes of a yard.

Each makes new things and new promises out of those that were; what was stays as it is.
"""

from nevertwice.bounds import MOST_CORNERS, is_patch
from nevertwice.corners import done, is_corner_row, is_step, need_corner
from nevertwice.edges import turned
from nevertwice.errors import (BadName, BadPromise, BadStep, Full, InUse, LastCorner, NameTaken, NoName, NoPromise,
                               NotLaid)
from nevertwice.floors import Floor
from nevertwice.gathering import cut_floor, gathered
from nevertwice.moving import floor_done, moved
from nevertwice.promises import FLOOR, PATCH, does_name, is_name, is_promise


def _with_thing(things, name, thing):
    """The things with this one behind the name."""
    found = dict(things)
    found[name] = thing
    return found


def _without_name(things, name):
    return {other: things[other] for other in things if other != name}


def _need_known(things, name):
    if not is_name(name) or name not in things:
        raise NoName(name)


def named_thing(things, name, kind):
    """The floor, or the patch, behind any value as its name; raises the error if there is none."""
    if not does_name(things, name, kind):
        raise NoName(name)
    return things[name]


def _put(things, promises, name, thing):
    if not is_name(name):
        raise BadName(name)
    if name in things and isinstance(things[name], Floor) != isinstance(thing, Floor):
        raise NameTaken(name)
    return _with_thing(things, name, thing), promises


def _drop(things, promises, name):
    _need_known(things, name)
    if any([name in promise[1:] for promise in promises]):
        raise InUse(name)
    return _without_name(things, name), promises


def _with_name(promise, name, other):
    """The promise with the other name in the place of the name."""
    return promise[:1] + tuple([other if part == name else part for part in promise[1:]])


def _rename(things, promises, name, other):
    _need_known(things, name)
    if not is_name(other):
        raise BadName(other)
    if other in things:
        raise NameTaken(other)
    found = _with_thing(_without_name(things, name), other, things[name])
    return found, tuple([_with_name(promise, name, other) for promise in promises])


def _move(things, promises, name, step):
    _need_known(things, name)
    if not is_step(step):
        raise BadStep(step)
    thing = things[name]
    if isinstance(thing, Floor):
        return _with_thing(things, name, moved(thing, step)), promises
    rows = [tuple([part + by for part, by in zip(corner, step)]) for corner in thing]
    return _with_thing(things, name, tuple(sorted(rows))), promises


def _lead(things, promises, name, motion):
    _need_known(things, name)
    thing = things[name]
    if isinstance(thing, Floor):
        return _with_thing(things, name, floor_done(motion, thing)), promises
    return _with_thing(things, name, tuple(sorted([done(motion, corner) for corner in thing]))), promises


def _gather(things, promises, name):
    return _with_thing(things, name, gathered(named_thing(things, name, FLOOR))), promises


def _cut(things, promises, name):
    return _with_thing(things, name, cut_floor(named_thing(things, name, FLOOR))), promises


def _turn(things, promises, name, direction):
    return _with_thing(things, name, turned(named_thing(things, name, FLOOR), direction)), promises


def _put_corner(things, promises, name, corner):
    patch = named_thing(things, name, PATCH)
    need_corner(corner)
    if corner in patch:
        return things, promises
    if len(patch) >= MOST_CORNERS:
        raise Full()
    return _with_thing(things, name, tuple(sorted(patch + (corner,)))), promises


def _take_corner(things, promises, name, corner):
    patch = named_thing(things, name, PATCH)
    if not is_corner_row(corner) or corner not in patch:
        raise NotLaid(corner)
    if len(patch) == 1:
        raise LastCorner()
    return _with_thing(things, name, tuple([other for other in patch if other != corner])), promises


def _give(things, promises, promise):
    if not is_promise(things, promise) or promise in promises:
        raise BadPromise(promise)
    return things, promises + (promise,)


def _release(things, promises, promise):
    if not is_promise(things, promise) or promise not in promises:
        raise NoPromise(promise)
    return things, tuple([other for other in promises if other != promise])


# For each word the number of items of the change.
SIZES = {
    "floor": 3, "patch": 3, "drop": 2, "rename": 3, "move": 3, "motion": 3, "gather": 2, "cut": 2, "turn": 3,
    "corner": 3, "off": 3, "promise": 2, "release": 2,
}
ACTIONS = {
    "floor": _put, "patch": _put, "drop": _drop, "rename": _rename, "move": _move, "motion": _lead,
    "gather": _gather, "cut": _cut, "turn": _turn, "corner": _put_corner, "off": _take_corner, "promise": _give,
    "release": _release,
}


def is_change(thing):
    """Whether any value is a change, be it one that can be made or not."""
    if not isinstance(thing, tuple) or len(thing) == 0 or not isinstance(thing[0], str) or thing[0] not in SIZES:
        return False
    if len(thing) != SIZES[thing[0]]:
        return False
    if thing[0] == "floor":
        return isinstance(thing[2], Floor)
    return thing[0] != "patch" or is_patch(thing[2])


def made(things, promises, change):
    """The things and the promises behind a change; raises the error of a change that cannot be made."""
    parts = change[1:]
    action = ACTIONS[change[0]]
    return action(things, promises, *parts)
