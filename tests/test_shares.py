"""Part 6: regions, areas, shares and stars."""

import itertools
import random
import unittest

from nevertwice.bounds import has_patch
from nevertwice.errors import BadLevel, BadPatch, BadStar, Dead
from nevertwice.floors import Floor, has_corner, home_of, sides
from nevertwice.golden import ZERO, is_below, minus, plus, quotient, reduced, sign, times
from nevertwice.patches import a_lean_patch, do_say_the_same, sure_highs, sure_lows
from nevertwice.shares import area_of, region_of, share_of, star_share, stars_of
from nevertwice.sure import is_open
from nevertwice.tiles import corners_of, is_thick, is_tile_row, round_about, star_of
from tests.patch_samples import (FAR_STEP, G, T, added, dead_patches, far_off, led_patch, living_patches,
                                 not_patches, right_papers, told_bounds)
from tests.samples import E, check_error, odd_values, regular_floors, spoiled

LIVING = living_patches()
ALL = (0, 5, 1)


def five_keys(pair):
    keys = list(pair)
    while len(keys) < 5:
        keys.append(minus(times((0, -1, 1), keys[-1]), keys[-2]))
    return keys


def turn_at(first, second, third):
    """Above 0 if one turns left at the second one of three points."""
    x = minus(second[0], first[0]), minus(second[1], first[1])
    y = minus(third[0], second[0]), minus(third[1], second[1])
    return minus(times(x[0], y[1]), times(x[1], y[0]))


def crossings(patch):
    """All points on two lines of the bounds that are not parallel and within the bounds, in no order."""
    lows, highs = told_bounds(patch)
    lines = [(r, bound) for five in (lows, highs) for r, bound in enumerate(five) if bound is not None]
    # t_r is x t_0 + y t_1.
    parts = [((1, 0, 1), ZERO), (ZERO, (1, 0, 1)), ((-1, 0, 1), (0, -1, 1)), (G, G), ((0, -1, 1), (-1, 0, 1))]
    found = {}
    for (r, one), (s, other) in itertools.combinations(lines, 2):
        if r == s:
            continue
        (a, b), (c, d) = parts[r], parts[s]
        norm = minus(times(a, d), times(b, c))
        pair = (quotient(minus(times(one, d), times(b, other)), norm),
                quotient(minus(times(a, other), times(one, c)), norm))
        keys = five_keys(pair)
        if any([low is not None and is_below(key, low) for key, low in zip(keys, lows)]):
            continue
        if any([high is not None and is_below(high, key) for key, high in zip(keys, highs)]):
            continue
        found[pair] = True
    return list(found)


class Regions(unittest.TestCase):
    def test_examples(self):
        right = ((ZERO, ZERO), ((1, 0, 1), (-1, 0, 1)), ((1, 0, 1), ZERO))
        self.assertEqual(region_of(T), right)
        self.assertEqual(area_of(T), (1, 0, 2))
        self.assertEqual(share_of(T), (-1, 1, 10))

    def test_regions(self):
        for patch in LIVING:
            corners = region_of(patch=patch)
            self.assertEqual(sorted(corners), sorted(crossings(patch)))
            self.assertTrue(3 <= len(corners) <= 10)
            for at, second in enumerate(corners):
                self.assertEqual(sign(turn_at(corners[at - 2], corners[at - 1], second)), 1)
                self.assertEqual((reduced(second[0]), reduced(second[1])), second)
            first = corners[0]
            for other in corners[1:]:
                self.assertTrue(is_below(first[0], other[0])
                                or first[0] == other[0] and is_below(first[1], other[1]))
            lows, highs = sure_lows(patch), sure_highs(patch)
            for r in range(5):
                keys = [five_keys(corner)[r] for corner in corners]
                self.assertTrue(lows[r] in keys and highs[r] in keys)
                self.assertFalse(any([is_below(key, lows[r]) or is_below(highs[r], key) for key in keys]))

    def test_regions_with_many_corners(self):
        lengths = {}
        for patch in LIVING:
            lengths[len(region_of(patch))] = patch
        self.assertEqual(sorted(lengths), [3, 4, 5, 6, 7, 8, 10])
        # Two corners at the left, one above the other.
        found = [patch for patch in LIVING if region_of(patch)[0][0] == region_of(patch)[-1][0]]
        self.assertTrue(len(found) > 0)

    def test_areas(self):
        for patch in LIVING:
            corners = region_of(patch)
            double = ZERO
            for second, third in zip(corners[1:], corners[2:]):
                double = plus(double, turn_at(corners[0], second, third))
            self.assertEqual(area_of(patch=patch), times((1, 0, 2), double))
            self.assertEqual(share_of(patch=patch), quotient(area_of(patch), ALL))
            self.assertTrue(is_below(ZERO, share_of(patch)) and is_below(share_of(patch), (1, 0, 1)))

    def test_tiles(self):
        seen = {True: 0, False: 0}
        feet = [row for row in itertools.product((-1, 0, 1), repeat=5) if sum(row) in (1, 2)][::9]
        for foot in feet:
            for r, s in itertools.combinations(range(5), 2):
                tile = (foot, r, s)
                self.assertTrue(is_tile_row(tile))
                area = (1, 0, 2) if is_thick(tile) else (-1, 1, 2)
                self.assertEqual(area_of(tuple(sorted(corners_of(tile)))), area)
                seen[is_thick(tile)] += 1
        self.assertTrue(min(seen.values()) > 10)

    def test_single_corners(self):
        total = ZERO
        for level, right in ((1, (-1, 2, 2)), (2, (1, 3, 2)), (3, (1, 3, 2)), (4, (-1, 2, 2))):
            for corner in ((level, 0, 0, 0, 0), added((0, 0, level, 0, 0), FAR_STEP)):
                self.assertEqual(area_of((corner,)), right)
            total = plus(total, right)
        self.assertEqual(total, ALL)

    def test_moves_and_motions_change_no_share(self):
        for patch in LIVING[::6]:
            for motion in ((1, 0, 0), (0, 1, 0), (3, 1, 1), (0, 0, 1)):
                self.assertEqual(share_of(led_patch(motion, patch)), share_of(patch))
            self.assertEqual(share_of(far_off(patch)), share_of(patch))
            self.assertEqual(share_of(a_lean_patch(patch)), share_of(patch))

    def test_open_corners_make_it_less(self):
        source = random.Random(31)
        for patch in [patch for patch in LIVING if len(patch) < 10][::3]:
            for _ in range(6):
                row = list(source.choice(patch))
                for _ in range(2):
                    row[source.randrange(5)] += source.choice((-1, 1))
                if 1 <= sum(row) <= 4 and tuple(row) not in patch:
                    grown = tuple(sorted(patch + (tuple(row),)))
                    if right_papers(*told_bounds(grown)) == []:
                        is_less = is_below(area_of(grown), area_of(patch))
                        self.assertEqual(is_less, is_open(patch, tuple(row)))
                        self.assertEqual(is_less, not do_say_the_same(grown, patch))

    def test_how_often_patches_come(self):
        # A floor has as many corners as tiles.
        around = round_about(E, home_of(E), 26, most=10 ** 5)
        for patch in [T, ((1, 0, 0, 0, 0),), ((2, 0, 0, 0, 0),)] + [patch for patch in LIVING if len(patch) == 3][:2]:
            places = 0
            for row in around:
                if sum(row) == sum(patch[0]):
                    step = tuple([a - b for a, b in zip(row, patch[0])])
                    places += has_patch(E, tuple([added(corner, step) for corner in patch]))
            a, b, d = share_of(patch)
            share = (a + b * 1.618033988749895) / d
            self.assertTrue(abs(places / len(around) - share) < 0.015, patch)

    def test_errors(self):
        for thing in not_patches():
            for function in (region_of, area_of, share_of):
                check_error(self, BadPatch, {"thing": thing}, function, thing)
                check_error(self, BadPatch, {"thing": thing}, function, patch=thing)
        for patch in dead_patches():
            for function in (region_of, area_of, share_of):
                with self.assertRaises(Dead) as caught:
                    function(patch)
                self.assertIn(caught.exception.paper, right_papers(*told_bounds(patch)))


class Stars(unittest.TestCase):
    def test_all_stars_come(self):
        found = {1: {}, 2: {}, 3: {}, 4: {}}
        for floor in (E, Floor((7, -5, 4), (3, 4, 2))):
            for corner in round_about(floor, home_of(floor), 45, most=20000):
                found[sum(corner)][star_of(floor, corner)] = True
        for level in (1, 2, 3, 4):
            self.assertEqual(stars_of(level), tuple(sorted(found[level])))
            self.assertEqual(stars_of(level=level), stars_of(level))
        self.assertEqual([len(stars_of(level)) for level in (1, 2, 3, 4)], [11, 21, 21, 11])

    def test_stars_of_floors(self):
        for floor in regular_floors():
            for corner in round_about(floor, home_of(floor), 4):
                self.assertIn(star_of(floor, corner), stars_of(sum(corner)))

    def test_shares_add_up(self):
        for level in (1, 2, 3, 4):
            total = ZERO
            for star in stars_of(level):
                share = star_share(level, star)
                self.assertTrue(is_below(ZERO, share))
                self.assertEqual(share, reduced(share))
                self.assertEqual(share, star_share(star=star, level=level))
                opposite = tuple(sorted([(j, -by) for j, by in star]))
                self.assertEqual(share, star_share(5 - level, opposite))
                for q in range(5):
                    turned = tuple(sorted([((j + q) % 5, by) for j, by in star]))
                    self.assertEqual(share, star_share(level, turned))
                total = plus(total, share)
            self.assertEqual(total, share_of(((level, 0, 0, 0, 0),)))

    def test_how_often_stars_come(self):
        # The part of the region of one corner in which it has a star, by floors that lie evenly in it.
        for level in (1, 2):
            corner = (level, 0, 0, 0, 0)
            counts = {}
            many = 0
            for x, y in itertools.product(range(-70, 71), repeat=2):
                one, other = (x * 1001 + 1, 0, 22009), (y * 1003 + 2, 0, 22009)
                floor = Floor(one, other, sides(one, other)[0])
                if has_corner(floor, corner):
                    star = star_of(floor, corner)
                    counts[star] = counts.get(star, 0) + 1
                    many += 1
            whole = share_of((corner,))
            self.assertTrue(many > 400)
            for star in stars_of(level):
                a, b, d = quotient(star_share(level, star), whole)
                part = (a + b * 1.618033988749895) / d
                self.assertTrue(abs(counts.get(star, 0) / many - part) < 0.02, (level, star))

    def test_known_shares(self):
        # All five edges upward from the level 1: the rests there are between 0 and 1, which is the least window.
        round_star = ((0, 1), (1, 1), (2, 1), (3, 1), (4, 1))
        corners = {}
        for j in range(5):
            for tile in (((1, 0, 0, 0, 0), min(j, (j + 1) % 5), max(j, (j + 1) % 5)),):
                for row in corners_of(tile):
                    corners[row] = True
        self.assertEqual(star_share(1, round_star), share_of(tuple(sorted(corners))))

    def test_errors(self):
        for thing in [value for value in odd_values() if value not in (1, 2, 3, 4)] + [0, 5, -1, True, (1,), 10 ** 30]:
            check_error(self, BadLevel, {"thing": thing}, stars_of, thing)
            check_error(self, BadLevel, {"thing": thing}, stars_of, level=thing)
            check_error(self, BadLevel, {"thing": thing}, star_share, thing, "x")
            check_error(self, BadLevel, {"thing": thing}, star_share, star=((0, 1),), level=thing)
        for level in (1, 2, 3, 4):
            star = stars_of(level)[3]
            others = [star[::-1], star + star[-1:], list(star), tuple([list(edge) for edge in star]), star[:-1], 0,
                      tuple([(j, by == 1) for j, by in star]), ((0, 1), (1, 1)), stars_of(5 - level)[3],
                      tuple([(bool(j) if j < 2 else j, by) for j, by in star])]
            right = [repr(one) for one in stars_of(level)]
            for thing in [value for value in odd_values() + spoiled(star) + others if repr(value) not in right]:
                check_error(self, BadStar, {"thing": thing}, star_share, level, thing)
                check_error(self, BadStar, {"thing": thing}, star_share, star=thing, level=level)


if __name__ == "__main__":
    unittest.main()
