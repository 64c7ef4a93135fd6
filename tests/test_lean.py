"""Part 6, [6.6]: lean patches of many corners, their answers and how long they take."""

import random
import time
import unittest

from nevertwice.errors import Dead
from nevertwice.fivesheaves import tile_of
from nevertwice.floors import home_of
from nevertwice.patches import a_lean_patch, is_lean, patch_holds, sure_highs, sure_lows
from nevertwice.sure import is_sure
from nevertwice.tiles import corners_of, round_about
from tests.patch_samples import far_off
from tests.samples import ALL_WHOLE, E, W, regular_floors

# Fifty corners, and many more.
AROUND = round_about(E, (0, 0, 1, 0, 1), 4)
WIDER = round_about(E, (0, 0, 1, 0, 1), 5)
# Lean patches of seven and of six corners.
SEVEN = ((-51, 29, 70, 15, -59), (-16, -32, -3, 30, 24), (-14, -28, -3, 26, 21), (-6, 37, 29, -18, -39),
         (-5, -24, -8, 19, 22), (10, 26, 7, -22, -18), (14, -8, -18, -4, 17))
SIX = ((-42, -13, 36, 34, -12), (8, -33, -27, 16, 38), (11, 70, 32, -50, -61), (16, -26, -30, 7, 36),
       (27, -32, -47, 3, 50), (39, -38, -61, -1, 63))


def said(patch):
    return (sure_lows(patch), sure_highs(patch))


def left_out(patch, corner):
    return tuple([other for other in patch if other != corner])


def spare_corners(patch):
    """The corners without which a patch says the same."""
    if len(patch) == 1:
        return []
    told = said(patch)
    return [corner for corner in patch if said(left_out(patch, corner)) == told]


def lean_by(patch):
    """The lean patch that is left if one corner after the other is left out, the first ones first."""
    lean = patch
    for corner in patch:
        if len(lean) > 1 and said(left_out(lean, corner)) == said(patch):
            lean = left_out(lean, corner)
    return lean


def scattered(many, source):
    """So many corners of the floor E that lie far from one another."""
    found = set()
    while len(found) < many:
        j, l = source.sample(range(5), 2)
        tile = tile_of(E, (j, source.randrange(-40, 41)), (l, source.randrange(-40, 41)))
        found.add(source.choice(corners_of(tile)))
    return tuple(sorted(found))


def many_cornered():
    """Patches of 13 and of 64 corners, and one of 50."""
    source = random.Random(17)
    found = [AROUND, AROUND[:13], WIDER[:64], far_off(AROUND[:13]), far_off(WIDER[-64:])]
    for floor in (W, ALL_WHOLE, regular_floors()[2]):
        around = round_about(floor, home_of(floor), 5)
        found.extend([tuple(sorted(source.sample(around, many))) for many in (13, 64)])
    return found + [scattered(13, source) for _ in range(6)] + [scattered(64, source)]


def best_time(call, patch):
    """The least time that some calls take, in seconds."""
    times = []
    for _ in range(7):
        start = time.perf_counter()
        call(patch)
        times.append(time.perf_counter() - start)
    return min(times)


class Lean(unittest.TestCase):
    def test_patches_of_13_and_of_64_corners(self):
        for patch in many_cornered():
            self.assertIn(len(patch), (13, 50, 64))
            self.assertEqual(is_lean(patch), spare_corners(patch) == [])
            lean = a_lean_patch(patch)
            self.assertEqual(lean, lean_by(patch))
            self.assertEqual(said(lean), said(patch))
            self.assertIs(is_lean(lean), True)
            self.assertEqual(spare_corners(lean), [])
            self.assertEqual(a_lean_patch(lean), lean)

    def test_lean_ones_of_many_corners(self):
        for patch in (SIX, SEVEN, far_off(SEVEN)):
            self.assertIs(is_lean(patch), True)
            self.assertEqual(spare_corners(patch), [])
            self.assertEqual(a_lean_patch(patch), patch)
            for corner in patch:
                self.assertNotEqual(said(left_out(patch, corner)), said(patch))
                self.assertIs(is_lean(left_out(patch, corner)), spare_corners(left_out(patch, corner)) == [])

    def test_lean_ones_among_others(self):
        # What is sure for a lean patch is spare beside it, whatever its place.
        source = random.Random(23)
        for lean in (SEVEN, SIX, a_lean_patch(AROUND[:13]), a_lean_patch(WIDER[:64])):
            told = said(lean)
            more = []
            for corner in WIDER + scattered(60, source):
                if corner not in lean and is_sure(lean, corner):
                    more.append(corner)
            for many in range(1, min(len(more), 64 - len(lean)) + 1, 5):
                patch = tuple(sorted(lean + tuple(more[:many])))
                self.assertIs(is_lean(patch), False)
                self.assertEqual(said(patch), told)
                found = a_lean_patch(patch)
                self.assertEqual(found, lean_by(patch))
                self.assertEqual(said(found), told)

    def test_two_corners_that_say_the_same_bound(self):
        source = random.Random(29)
        for many in (2, 3, 4, 6, 9):
            for _ in range(12):
                patch = tuple(sorted(source.sample(AROUND, many)))
                self.assertEqual(is_lean(patch), spare_corners(patch) == [])
                self.assertEqual(a_lean_patch(patch), lean_by(patch))

    def test_dead_patches_of_many_corners(self):
        for corners in (WIDER[:63] + ((9, -8, 0, 0, 0),), AROUND[:12] + ((-7, 8, 0, 0, 0),)):
            patch = tuple(sorted(corners))
            for call in (is_lean, a_lean_patch):
                with self.assertRaises(Dead) as caught:
                    call(patch)
                self.assertIs(patch_holds(patch, caught.exception.paper), True)

    def test_how_long_they_take(self):
        # Each corner by itself takes far less than the sure bounds of all of them.
        for patch in (AROUND[:13], AROUND, WIDER[:64], SEVEN):
            enough = 12 * best_time(sure_lows, patch)
            self.assertLess(best_time(is_lean, patch), enough)
            self.assertLess(best_time(a_lean_patch, patch), enough)


if __name__ == "__main__":
    unittest.main()
