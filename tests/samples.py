"""Values of all kinds, right ones that are spoiled, floors of all kinds, and a check for errors."""

from nevertwice.errors import FloorError
from nevertwice.floors import Floor, sides
from nevertwice.fivesheaves import Sheaves

E = Floor((1, 0, 3), (1, 0, 3))
W = Floor((0, 0, 1), (1, 0, 2), (1, 0, 0, 0, 0))
ALL_WHOLE = Floor((0, 0, 1), (0, 0, 1), (1, -1, 1, 1, -1))


def nested(deep):
    value = []
    for _ in range(deep):
        value = (value, {"a": value}, [value])
    return value


def odd_values():
    """Values of which none is a number, row, corner, line, tile or point of any kind."""
    return [
        None, True, False, "", "a", "0+0g", "floor 1+0g/3 1+0g/3", [], (), {}, [1, 0, 1], [1, 0, 0, 0, 0],
        {"a": 1}, {0: (1, 0, 1)}, (None,), ((),), (True, False, True), (1, 0, True), (True, 0, 0, 0, 0),
        ("1", "0", "1"), ([1], 0, 1), (1, 0, None), (1, 0, -1), (1, 0, 1, 1), (7, 0),
        E, (E,), (E, E), [E, W], (W, 0, 1), Sheaves(((0, 0, 1),) * 5), nested(6), ({}, {}, {}), ([], [], [], [], []),
        "x" * 2000, tuple(["x"] * 3000), tuple([()] * 5), ((1, 0, 1),) * 4, ((1, 0, 1),) * 6, [(0, 0, 1)] * 5,
    ]


def odd_integers():
    """Values that are no integers."""
    return odd_values() + [(1,), "1", [1]]


SPOILS = (True, False, None, "1", [1], {}, (), (1,), [], E)


def spoiled(value):
    """The value as a list, with one part replaced, left out or put in, at all depths."""
    if not isinstance(value, tuple):
        return list(SPOILS)
    found = [list(value), value + value[-1:], value + (None,), (value,), [value], {"a": value}]
    for at, part in enumerate(value):
        found.append(value[:at] + value[at + 1:])
        for spoil in spoiled(part):
            found.append(value[:at] + (spoil,) + value[at + 1:])
    return found


def check_error(case, error_class, told, call, *args, **named):
    """Checks that a call raises exactly this error, whose attributes are the very values told."""
    with case.assertRaises(FloorError) as caught:
        call(*args, **named)
    error = caught.exception
    case.assertEqual(type(error), error_class)
    case.assertEqual(sorted(vars(error)), sorted(told))
    for name, value in told.items():
        case.assertEqual(vars(error)[name], value)
        case.assertEqual(type(vars(error)[name]), type(value))


def all_sided(one, other):
    """The floors with these keys and each of their sides."""
    return [Floor(one, other, side) for side in sides(one, other)]


def rounded_keys(at, whole, other):
    """The keys 0 and 1 of a floor with this key at a direction and another one at the next direction."""
    keys = Floor(whole, other, sides(whole, other)[0]).all_keys
    return keys[-at % 5], keys[(1 - at) % 5]


def edge_floors():
    """Floors at the edge: with one whole key, for each direction, and with five, with each side."""
    floors = all_sided((0, 0, 1), (0, 0, 1)) + all_sided((2, -3, 1), (-1, 1, 1))
    for at in range(5):
        one, other = rounded_keys(at, (at - 2, 3 - at, 1), (1, 1, 3))
        floors.extend(all_sided(one, other))
    return floors


def regular_floors():
    """Regular floors over several bottoms, the ones that are led to themselves among them."""
    pairs = [((1, 0, 3), (1, 0, 3)), ((3, -1, 5), (3, -1, 5)), ((7, -5, 4), (3, 4, 2)), ((1, 1, 11), (-9, 4, 7)),
             ((10 ** 59 + 7, -10 ** 58, 10 ** 57 + 3), (-10 ** 60, 10 ** 59 + 1, 13))]
    return [Floor(one, other) for one, other in pairs]


def long_floors():
    """Regular floors whose keys have integers of about 120 digits."""
    long = 10 ** 119
    return [Floor((long + 1, -long // 10, long - 3), (7, long, long // 10 + 9)),
            Floor((long // 3, 2, long + 7), (-long // 7, 1, long - 9))]


def tilt(side):
    """Two integers x, y such that the keys that begin with x and y have the signs of the side."""
    for x in range(-9, 10):
        for y in range(-9, 10):
            moved = Floor((x, 0, 7 * 31), (y, 0, 7 * 31), sides((x, 0, 7 * 31), (y, 0, 7 * 31))[0])
            signs = [(key[0] * 1000 + key[1] * 1618) for key in moved.all_keys]
            if all([part == 0 or part * size > 0 for part, size in zip(side, signs)]) and 0 not in signs:
                return x, y
    raise ValueError(side)


def nearly(floor):
    """A regular floor with the keys moved by a very little in the directions of the side."""
    if floor.side == (0, 0, 0, 0, 0):
        return floor
    x, y = tilt(floor.side)
    little = 10 ** 30 + 57
    keys = []
    for (a, b, d), move in zip(floor.all_keys[:2], (x, y)):
        keys.append((a * little + move * d, b * little, d * little))
    return Floor(keys[0], keys[1])
