"""Floors that are the same but for a move or a motion."""

from nevertwice.checks import is_direction, is_tuple_of
from nevertwice.corners import is_step, need_motion, row_of, shadow_of
from nevertwice.errors import BadStep
from nevertwice.fives import led_by
from nevertwice.floors import Floor
from nevertwice.golden import ZERO, is_whole, minus, plus


def moved(floor, step):
    """The floor moved by a step."""
    if not is_step(step):
        raise BadStep(step)
    shadow = shadow_of(step)
    return Floor(plus(floor.all_keys[0], shadow[0]), plus(floor.all_keys[1], shadow[1]), floor.side)


def _key_differences(one, other):
    return [minus(key, against) for key, against in zip(other.all_keys, one.all_keys)]


def _direction_apart(one, other):
    """The first direction at which the difference of the keys is not whole, None if there is none."""
    for r, difference in enumerate(_key_differences(one, other)):
        if not is_whole(difference):
            return r
    return None


def move_between(one, other):
    """The step by which one has to be moved to become other, None if there is none."""
    if one.side != other.side or _direction_apart(one, other) is not None:
        return None
    differences = _key_differences(one, other)
    return row_of(differences[0], differences[1], 0)


def judge_move(one, other):
    """A paper that says whether two floors are the same but for a move."""
    apart = _direction_apart(one, other)
    if apart is not None:
        return ("unlike", apart)
    if one.side != other.side:
        return ("sides",)
    return ("moved", move_between(one, other))


def move_holds(one, other, thing):
    """Whether any value is a right paper for two floors."""
    if thing == ("sides",):
        return judge_move(one, other) == thing
    if not is_tuple_of(thing, 2):
        return False
    kind, told = thing
    if kind == "moved":
        return is_step(told) and told == move_between(one, other)
    return kind == "unlike" and is_direction(told) and not is_whole(_key_differences(one, other)[told])


def floor_done(motion, floor):
    """The floor to which the motion is done."""
    need_motion(motion)
    one, other = led_by(motion, floor.all_keys)[:2]
    side = led_by(motion, floor.side)
    if motion[2]:
        one = minus(ZERO, one)
        other = minus(ZERO, other)
        side = tuple([-part for part in side])
    return Floor(one, other, side)


def motions_between(one, other):
    """The ascending tuple of all pairs of a motion and a step that lead one to other."""
    found = []
    for q in range(5):
        for m in (0, 1):
            for o in (0, 1):
                step = move_between(floor_done((q, m, o), one), other)
                if step is not None:
                    found.append(((q, m, o), step))
    return tuple(found)


def are_like(one, other):
    """Whether some motion and step lead one to other."""
    return len(motions_between(one, other)) > 0


def is_led_to_itself(motion, floor):
    """Whether the motion, with some step, leads the floor to itself."""
    return move_between(floor_done(motion, floor), floor) is not None


def least_keys(floor):
    """The keys 0 and 1, as (a, b, d) with a and b from 0 to d - 1, of the floor moved by some step."""
    # Any two whole golden numbers begin the shadow of some step.
    return tuple([(a % d, b % d, d) for a, b, d in floor.all_keys[:2]])
