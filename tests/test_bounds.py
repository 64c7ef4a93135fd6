"""Part 6: patches, bounds and sums of them."""

import itertools
import random
import unittest

from nevertwice.bounds import has_patch, high_bounds, high_sums, is_patch, low_bounds, low_sums, own_bounds
from nevertwice.corners import shadow_of
from nevertwice.errors import BadCorner, BadDirection, BadPatch
from nevertwice.floors import has_corner, home_of
from nevertwice.golden import ZERO, is_below, minus, plus, reduced, times
from nevertwice.tiles import round_about
from tests.patch_samples import (G, T, added, FAR_STEP, dead_patches, far_floor, living_patches, not_patches,
                                 own_numbers, told_bounds)
from tests.samples import (ALL_WHOLE, E, W, check_error, edge_floors, long_floors, nearly, odd_integers,
                           odd_values, regular_floors, spoiled)

ONE = (1, 0, 1)
LESSER = (-1, 1, 1)
NEAR = [row for row in itertools.product((-1, 0, 1, 2), repeat=5) if 1 <= sum(row) <= 4]


def golden(*numbers):
    """Whole golden numbers, each told as a or as (a, b)."""
    return tuple([None if n is None else (n[0], n[1], 1) if isinstance(n, tuple) else (n, 0, 1) for n in numbers])


def negative(number):
    return minus(ZERO, number)


def seven_sums(lows, highs, r):
    """The low sums at r as [6.4] writes them; with lows and highs exchanged they are the high sums."""
    before, after, further, furthest = (r - 1) % 5, (r + 1) % 5, (r + 2) % 5, (r - 2) % 5
    wanted = [
        ([lows[r]], lambda x: x),
        ([highs[before], highs[after]], lambda x, y: times((1, -1, 1), plus(x, y))),
        ([highs[further], highs[after]], lambda x, y: minus(negative(x), times(G, y))),
        ([highs[furthest], highs[before]], lambda x, y: minus(negative(x), times(G, y))),
        ([lows[furthest], lows[further]], lambda x, y: times(G, plus(x, y))),
        ([lows[further], highs[before]], lambda x, y: minus(times(LESSER, x), y)),
        ([lows[furthest], highs[after]], lambda x, y: minus(times(LESSER, x), y)),
    ]
    return tuple([None if None in numbers else rule(*numbers) for numbers, rule in wanted])


class Patches(unittest.TestCase):
    def test_patches(self):
        for patch in living_patches() + dead_patches():
            self.assertIs(is_patch(patch), True)
            self.assertIs(is_patch(thing=patch), True)
            if len(patch) > 1:
                self.assertIs(is_patch(patch[::-1]), False)
                self.assertIs(is_patch(patch[1:] + patch[:1]), False)
            self.assertIs(is_patch(patch + patch[-1:]), False)
            self.assertIs(is_patch(list(patch)), False)
        for thing in not_patches():
            self.assertIs(is_patch(thing), False)

    def test_how_many_corners(self):
        corners = round_about(E, home_of(E), 6)
        self.assertTrue(len(corners) > 65)
        self.assertIs(is_patch(corners[:64]), True)
        self.assertIs(is_patch(corners[:65]), False)
        self.assertIs(is_patch(()), False)
        self.assertIs(is_patch(((1, 0, 0, 0, 0),)), True)
        self.assertIs(is_patch(((1, 0, 0, 0, 0), (1, 0, 0, 0, 0))), False)

    def test_wrong_patches(self):
        for thing in not_patches():
            told = {"thing": thing}
            for function in (low_bounds, high_bounds):
                check_error(self, BadPatch, told, function, thing)
                check_error(self, BadPatch, told, function, patch=thing)
            for function in (low_sums, high_sums):
                check_error(self, BadPatch, told, function, thing, "x")
                check_error(self, BadPatch, told, function, direction=7, patch=thing)
            check_error(self, BadPatch, told, has_patch, E, thing)
            check_error(self, BadPatch, told, has_patch, patch=thing, floor=W)


class Bounds(unittest.TestCase):
    def test_examples(self):
        self.assertEqual(own_bounds((1, 0, 0, 0, 0)), golden((0, -1), 0, -1, -1, 0))
        self.assertEqual(own_bounds((0, 1, 0, 0, 0)), golden(0, (0, -1), 0, -1, -1))
        patch = ((0, 1, 0, 0, 0), (1, 0, 0, 0, 0))
        self.assertEqual(low_bounds(patch), golden(0, 0, 0, -1, 0))
        self.assertEqual(high_bounds(patch), (None,) * 5)
        self.assertEqual(own_bounds((0, 0, 1, 0, 1))[4], ZERO)
        self.assertEqual(low_bounds(T), golden(0, -1, -1, 0, (0, -1)))
        self.assertEqual(high_bounds(T), golden(1, 0, (-1, 1), (0, 1), 0))
        self.assertEqual(own_bounds((0, 1, 1, 0, 0)), golden((0, 1), 1, 1, (0, 1), (-1, 1)))

    def test_own_bounds_tell_the_corners(self):
        # A regular floor has a corner exactly if all keys are beyond the own bounds.
        for floor in regular_floors() + long_floors():
            for row in NEAR[::3] + list(round_about(floor, home_of(floor), 4)):
                is_low = sum(row) in (1, 3)
                beyond = [is_below(own, key) if is_low else is_below(key, own)
                          for own, key in zip(own_bounds(row), floor.all_keys)]
                self.assertEqual(all(beyond), has_corner(floor, row))
                self.assertEqual(own_bounds(corner=row), tuple(own_numbers(row)[0]))

    def test_bounds(self):
        for patch in living_patches() + dead_patches():
            lows, highs = told_bounds(patch)
            self.assertEqual(low_bounds(patch=patch), lows)
            self.assertEqual(high_bounds(patch=patch), highs)
            levels = [sum(corner) for corner in patch]
            self.assertEqual(lows == (None,) * 5, 1 not in levels and 3 not in levels)
            self.assertEqual(highs == (None,) * 5, 2 not in levels and 4 not in levels)
            for number in low_bounds(patch) + high_bounds(patch):
                self.assertTrue(number is None or reduced(number) == number)
        for level, is_low in ((1, True), (2, False), (3, True), (4, False)):
            corner = (level, 0, 0, 0, 0)
            self.assertEqual(low_bounds((corner,)), own_bounds(corner) if is_low else (None,) * 5)
            self.assertEqual(high_bounds((corner,)), (None,) * 5 if is_low else own_bounds(corner))

    def test_far_off(self):
        for patch in living_patches()[::7]:
            away = tuple(sorted([added(row, FAR_STEP) for row in patch]))
            shadow = shadow_of(FAR_STEP)
            for near, far in ((low_bounds(patch), low_bounds(away)), (high_bounds(patch), high_bounds(away))):
                for bound, moved_bound, by in zip(near, far, shadow):
                    self.assertEqual(moved_bound, None if bound is None else plus(bound, by))

    def test_wrong_corners(self):
        for thing in odd_values() + spoiled((1, 0, 0, 0, 0)) + [(0, 0, 0, 0, 0), (1, 1, 1, 1, 1), (T[0],), T, 0]:
            check_error(self, BadCorner, {"thing": thing}, own_bounds, thing)
            check_error(self, BadCorner, {"thing": thing}, own_bounds, corner=thing)


class Sums(unittest.TestCase):
    def test_sums(self):
        for patch in living_patches() + dead_patches():
            lows, highs = told_bounds(patch)
            for r in range(5):
                low = low_sums(patch, r)
                high = high_sums(patch=patch, direction=r)
                self.assertEqual(low, seven_sums(lows, highs, r))
                self.assertEqual(high, seven_sums(highs, lows, r))
                self.assertEqual(low, low_sums(direction=r, patch=patch))
                self.assertTrue(set(low) != {None} and set(high) != {None})

    def test_sums_of_one_kind_of_levels(self):
        none = None
        for patch in (((1, 0, 0, 0, 0),), ((0, 1, 1, 1, 0), (1, 0, 0, 0, 0))):
            for r in range(5):
                self.assertEqual([number is none for number in low_sums(patch, r)],
                                 [False, True, True, True, False, True, True])
                self.assertEqual([number is none for number in high_sums(patch, r)],
                                 [True, False, False, False, True, True, True])
        for patch in (((2, 0, 0, 0, 0),), ((0, 1, 1, 1, 1), (1, 0, 0, 0, 1))):
            for r in range(5):
                self.assertEqual([number is none for number in low_sums(patch, r)],
                                 [True, False, False, False, True, True, True])
                self.assertEqual([number is none for number in high_sums(patch, r)],
                                 [False, True, True, True, False, True, True])

    def test_sums_bound_the_keys(self):
        source = random.Random(8)
        for floor in regular_floors():
            around = round_about(floor, home_of(floor), 4)
            for many in (1, 2, 4, 9, 20):
                patch = tuple(sorted(source.sample(around, min(many, len(around)))))
                for r in range(5):
                    for number in low_sums(patch, r):
                        self.assertTrue(number is None or is_below(number, floor.all_keys[r]))
                    for number in high_sums(patch, r):
                        self.assertTrue(number is None or is_below(floor.all_keys[r], number))

    def test_wrong_directions(self):
        for thing in odd_integers() + [5, -1, 10 ** 30]:
            for function in (low_sums, high_sums):
                check_error(self, BadDirection, {"thing": thing}, function, T, thing)
                check_error(self, BadDirection, {"thing": thing}, function, direction=thing, patch=T)


class HasPatch(unittest.TestCase):
    def test_has_patch(self):
        source = random.Random(9)
        for floor in regular_floors() + edge_floors() + long_floors():
            around = round_about(floor, home_of(floor), 5)
            beside = nearly(floor)
            for many in (1, 3, 12, 64):
                patch = tuple(sorted(source.sample(around, min(many, len(around)))))
                self.assertIs(has_patch(patch=patch, floor=floor), True)
                self.assertIs(has_patch(beside, patch), True)
                self.assertIs(has_patch(far_floor(floor), tuple([added(row, FAR_STEP) for row in patch])), True)
                for row in NEAR[::31]:
                    grown = tuple(sorted(set(patch[1:] + (row,))))
                    self.assertIs(has_patch(floor, grown), has_corner(floor, row))

    def test_sides_decide(self):
        floors = [(floor, nearly(floor)) for floor in edge_floors()]
        seen = []
        for floor, _ in floors:
            patch = round_about(floor, home_of(floor), 4)[:64]
            for other, beside in floors:
                if floor.all_keys == other.all_keys:
                    right = all([has_corner(beside, row) for row in patch])
                    self.assertIs(has_patch(other, patch), right)
                    seen.append(right)
        self.assertTrue(seen.count(True) >= len(floors) and False in seen)
        self.assertIs(has_patch(ALL_WHOLE, ((0, 0, 0, 0, 1),)), True)

    def test_dead_patches(self):
        for patch in dead_patches():
            for floor in regular_floors() + edge_floors():
                self.assertIs(has_patch(floor, patch), False)


if __name__ == "__main__":
    unittest.main()
