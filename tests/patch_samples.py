"""Patches of all kinds, and what the document says of bounds, written out a second time."""

import itertools
import random

from nevertwice.corners import done, shadow_of
from nevertwice.fivesheaves import tile_of
from nevertwice.floors import Floor, home_of
from nevertwice.golden import ZERO, is_below, minus, plus, sign, times
from nevertwice.tiles import round_about, tiles_at
from tests.samples import E, odd_values, regular_floors, spoiled

G = (0, 1, 1)
# A thin low tile.
T = ((0, 0, 0, 0, 1), (0, 1, 0, 0, 1), (1, 0, 0, 0, 1), (1, 1, 0, 0, 1))
# Four tiles of which any two live, but for which ("highgap", 3) is the only right paper.
FOUR_TILES = (((0, 0, 1, 0, 0), 2, 4), ((0, 0, 2, 0, 0), 3, 4), ((0, 0, 1, 0, 0), 1, 2), ((0, -1, 2, 1, 0), 1, 4))
KINDS = ("pair", "lows", "highs", "lowgap", "highgap")
FAR_STEP = (10 ** 59, -10 ** 60 + 1, 3, 9 * 10 ** 59, -4)


def added(row, step):
    return tuple([part + by for part, by in zip(row, step)])


def far_off(rows):
    """Rows moved so far that their integers have 60 digits."""
    return tuple(sorted([added(row, FAR_STEP) for row in rows]))


def far_floor(floor):
    """The floor moved in the same way."""
    shadow = shadow_of(FAR_STEP)
    return Floor(plus(floor.all_keys[0], shadow[0]), plus(floor.all_keys[1], shadow[1]), floor.side)


def near_tiles(floor, steps):
    """The tiles at the corners that can be reached from the home of a floor along so many edges."""
    found = {}
    for corner in round_about(floor, home_of(floor), steps):
        for tile in tiles_at(floor, corner):
            found[tile] = True
    return sorted(found)


def four_tiles_patch():
    corners = {}
    for foot, r, s in FOUR_TILES:
        for by_r in (0, 1):
            for by_s in (0, 1):
                row = list(foot)
                row[r] += by_r
                row[s] += by_s
                corners[tuple(row)] = True
    return tuple(sorted(corners))


def own_numbers(corner):
    """The own bounds by [6.2], and whether they are low ones."""
    add = {1: (-1, 0, 1), 2: (-1, 1, 1), 3: (-2, 0, 1), 4: (-2, 1, 1)}[sum(corner)]
    return [plus(part, add) for part in shadow_of(corner)], sum(corner) in (1, 3)


def told_bounds(patch):
    """The low and the high bounds by [6.2]."""
    lows = [None] * 5
    highs = [None] * 5
    for corner in patch:
        own, is_low = own_numbers(corner)
        for r in range(5):
            if is_low and (lows[r] is None or is_below(lows[r], own[r])):
                lows[r] = own[r]
            if not is_low and (highs[r] is None or is_below(own[r], highs[r])):
                highs[r] = own[r]
    return tuple(lows), tuple(highs)


def total_of(parts):
    """The sum of pairs (factor, number), None if a number is None."""
    if None in [number for _, number in parts]:
        return None
    total = ZERO
    for factor, number in parts:
        total = plus(total, times(factor, number))
    return total


def right_papers(lows, highs):
    """All right papers of [6.3] but "lives"."""
    one, lesser = (1, 0, 1), (-1, 1, 1)
    found = []
    for r in range(5):
        before, after, further, furthest = (r - 1) % 5, (r + 1) % 5, (r + 2) % 5, (r - 2) % 5
        opposite_one = (-1, 0, 1)
        sums = {
            "pair": total_of([(one, lows[r]), (opposite_one, highs[r])]),
            "lows": total_of([(one, lows[before]), (one, lows[after]), (G, lows[r])]),
            "highs": total_of([(one, highs[before]), (one, highs[after]), (G, highs[r])]),
            "lowgap": total_of([(one, lows[furthest]), (one, lows[further]), (minus(ZERO, lesser), highs[r])]),
            "highgap": total_of([(one, highs[furthest]), (one, highs[further]), (minus(ZERO, lesser), lows[r])]),
        }
        for kind, total in sums.items():
            if total is not None and (sign(total) <= 0 if kind in ("highs", "highgap") else sign(total) >= 0):
                found.append((kind, r))
    return found


def some_of(corners, many, source):
    return tuple(sorted(source.sample(list(corners), many)))


def living_patches():
    """Patches of 1 to 64 corners that some regular floors have."""
    source = random.Random(5)
    found = [T, far_off(T), ((1, 0, 0, 0, 0),), ((2, 0, 0, 0, 0),), ((1, 1, 1, 0, 0),), ((1, 2, -1, 0, 2),)]
    # Their regions have 6, 7, 8 and 10 corners.
    for corner in ((-4, -3, 4, 5, 0), (-5, -2, 5, 5, -1), (-4, -1, 5, 5, -1), (-2, -3, 2, 5, 2)):
        found.append((corner, (1, 0, 0, 0, 0)))
    for floor in regular_floors():
        for radius in (1, 3, 5):
            around = round_about(floor, home_of(floor), radius)
            for many in (1, 2, 3, 5, 8, 12):
                if many <= len(around):
                    found.append(some_of(around, many, source))
    around = round_about(E, home_of(E), 5)
    found.append(around[:64])
    found.append(far_off(around[-64:]))
    # Places of one floor that lie very far from one another.
    far_place = round_about(E, tile_of(E, (0, 10 ** 59), (1, -10 ** 58))[0], 2)
    found.append(tuple(sorted(far_place[:3] + around[:3])))
    found.append(tuple(sorted(far_place[:1] + around[30:31])))
    return found


def led_patch(motion, patch):
    return tuple(sorted([done(motion, corner) for corner in patch]))


def dead_patches():
    """Dead patches with right papers of each kind, for each kind some with right papers of this kind alone."""
    source = random.Random(11)
    near = [row for row in itertools.product((0, 1), repeat=5) if 1 <= sum(row) <= 4]
    found = [far_off(four_tiles_patch())]
    for motion in itertools.product(range(5), (0, 1), (0, 1)):
        for patch in (four_tiles_patch(), ((0, 1, 0, 0, 0), (1, 0, 0, 0, 0)), ((0, 0, 1, 0, 1), (1, 0, 0, 0, 0))):
            found.append(led_patch(motion, patch))
    for _ in range(12):
        patch = ()
        for _ in range(10):
            grown = tuple(sorted(set(patch + (source.choice(near),))))
            if right_papers(*told_bounds(grown)):
                found.append(grown)
            else:
                patch = grown
    around = round_about(E, home_of(E), 5)
    found.append(tuple(sorted(around[:63] + ((9, -8, 0, 0, 0),))))
    return found


def not_patches():
    """Values that are no patches."""
    corner = (1, 0, 0, 0, 0)
    many = tuple([(k, -k, 0, 0, 1) for k in range(65)])
    # One corner of two left out leaves a patch.
    spoiled_ones = [thing for thing in spoiled((corner,)) + spoiled(T[:2]) if thing not in (T[:1], T[1:2])]
    return odd_values() + spoiled_ones + [
        corner, (corner, corner), (T[1], T[0]), list(T), T[::-1], T + T[:1], many, many * 40, (corner, (0, 0, 0, 0, 0)),
        ((1, 1, 1, 1, 1),), ((True, 0, 0, 0, 0),), ((0, 0, 0, 0, 0), corner), tuple([list(row) for row in T]), 0]
