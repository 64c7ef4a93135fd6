"""Whole floors, given by their keys and their side, and told by windows."""

from nevertwice.checks import are_plain_integers, is_direction, is_tuple_of
from nevertwice.corners import is_corner_row, near_sum, need_corner, need_direction, shadow_of
from nevertwice.crossings import crossing_row
from nevertwice.errors import BadNumber, BadSide, BadText
from nevertwice.fives import five_by_rule, led_round, stepped
from nevertwice.golden import (is_whole, is_whole_golden, minus, number_text, read_number, reduced,
                               sign_of_parts)

REGULAR_SIDE = (0, 0, 0, 0, 0)
# The side of a floor with five whole keys from which the nine others are turned and changed.
FIRST_SIDE = (1, -1, 1, 1, -1)
# -g, the number of the rule of keys.
KEY_RULE = (0, -1, 1)
# For each level the whole golden number a + b g, as (a, b), that bounds the rests: from above for the
# levels 1 and 3, from below for 2 and 4.
WINDOWS = ((0, 0), (1, 0), (1, -1), (2, 0), (2, -1))
# By these marks a text tells a side; the last one is found with -1.
SIDE_MARKS = "0+-"
MARKED_PARTS = {"0": 0, "+": 1, "-": -1}


class Floor:
    """A floor with the keys 0 and 1 that are passed, and a side."""

    def __init__(self, one, other, side=(0, 0, 0, 0, 0)):
        all_keys = keys_by(one, other)
        if not are_plain_integers(side, 5) or side not in _sides_of(all_keys):
            raise BadSide(side)
        self.all_keys = all_keys
        self.side = side

    def __eq__(self, other):
        return isinstance(other, Floor) and self.all_keys == other.all_keys and self.side == other.side

    def __str__(self):
        words = ["floor", number_text(self.all_keys[0]), number_text(self.all_keys[1])]
        if self.side != REGULAR_SIDE:
            words.append("".join([SIDE_MARKS[part] for part in self.side]))
        return " ".join(words)

    @classmethod
    def read(cls, text):
        """The floor of a text."""
        if not isinstance(text, str):
            raise BadText(0)
        words = text.split(" ")
        if len(words) not in (3, 4) or words[0] != "floor":
            raise BadText(1)
        side = _side_written(words[3]) if len(words) == 4 else REGULAR_SIDE
        try:
            floor = cls(read_number(words[1]), read_number(words[2]), side)
        except (BadText, BadSide) as error:
            raise BadText(1) from error
        if str(floor) != text:
            raise BadText(1)
        return floor


def _side_written(marks):
    """The integers that a string of signs tells; None if it has other marks."""
    if not all([mark in MARKED_PARTS for mark in marks]):
        return None
    return tuple([MARKED_PARTS[mark] for mark in marks])


def keys_by(one, other):
    """The five keys that begin with these two, reduced."""
    # What is no golden number is refused when it is reduced.
    return five_by_rule(KEY_RULE, reduced(one), reduced(other))


def _whole_directions(all_keys):
    return tuple([r for r in range(5) if is_whole(all_keys[r])])


def _sides_of(all_keys):
    """The ascending tuple of all sides of floors with these five keys."""
    whole = _whole_directions(all_keys)
    if len(whole) == 0:
        return (REGULAR_SIDE,)
    if len(whole) == 1:
        return (stepped(REGULAR_SIDE, whole[0], -1), stepped(REGULAR_SIDE, whole[0], 1))
    found = []
    for q in range(5):
        turned_side = led_round(FIRST_SIDE, q)
        found.append(turned_side)
        found.append(tuple([-part for part in turned_side]))
    return tuple(sorted(found))


def whole_keys(floor):
    """The ascending tuple of the directions whose key is whole."""
    return _whole_directions(floor.all_keys)


def sides(one, other):
    """The ascending tuple of all sides of floors with these keys 0 and 1."""
    return _sides_of(keys_by(one, other))


def rest_of(floor, corner, direction):
    """The rest of a corner at a direction: its shadow less the key."""
    need_corner(corner)
    need_direction(direction)
    return minus(shadow_of(corner)[direction], floor.all_keys[direction])


def is_rest_below(floor, row, direction, bound):
    """Whether the rest of a row is below a + b g for the bound (a, b); the side decides ties."""
    a, b, d = floor.all_keys[direction]
    order = sign_of_parts((near_sum(row, direction) - bound[0]) * d - a, (-row[direction] - bound[1]) * d - b)
    if order == 0:
        return floor.side[direction] == 1
    return order < 0


def is_below_bound(floor, corner, direction, bound):
    """Whether the rest of a corner is below a whole golden number; the side decides ties."""
    need_corner(corner)
    need_direction(direction)
    if not is_whole_golden(bound):
        raise BadNumber(bound)
    a, b, _ = reduced(bound)
    return is_rest_below(floor, corner, direction, (a, b))


def is_within_window(floor, corner, direction):
    """Whether the rest of a corner is within the bound that its level has at each direction."""
    level = sum(corner)
    return is_rest_below(floor, corner, direction, WINDOWS[level]) == (level in (1, 3))


def has_corner(floor, thing):
    """Whether any value is a corner of the floor."""
    if not is_corner_row(thing):
        return False
    for direction in range(5):
        if not is_within_window(floor, thing, direction):
            return False
    return True


def has_edge(floor, thing):
    """Whether any value is an edge of the floor."""
    if not is_tuple_of(thing, 2) or not is_direction(thing[1]) or not has_corner(floor, thing[0]):
        return False
    return has_corner(floor, stepped(thing[0], thing[1], 1))


def has_tile(floor, thing):
    """Whether any value is a tile of the floor."""
    if not is_tuple_of(thing, 3):
        return False
    foot, r, s = thing
    if not is_direction(r) or not is_direction(s) or r >= s or not has_corner(floor, foot):
        return False
    beside = stepped(foot, r, 1)
    for corner in (beside, stepped(foot, s, 1), stepped(beside, s, 1)):
        if not has_corner(floor, corner):
            return False
    return True


def home_of(floor):
    """The foot k of the one tile (k, 0, 1) with k[0] = 0 and k[1] = 0."""
    return crossing_row(floor.all_keys, floor.side, (0, 0), (1, 0))
