"""Part 6: corners that are sure, barred or open for a patch, and sure tiles."""

import inspect
import itertools
import random
import unittest

from nevertwice.bounds import has_patch, high_sums, is_patch, low_sums
from nevertwice.errors import BadCorner, BadCount, BadPatch, Dead, TooMany
from nevertwice.floors import Floor, has_corner, has_tile, home_of, whole_keys
from nevertwice.golden import is_below
from nevertwice.patches import a_floor, a_lean_patch, does_live, sure_highs, sure_lows
from nevertwice.sure import (is_barred, is_open, is_sure, judge_sure, sure_corners, sure_holds, sure_tiles)
from nevertwice.tiles import corners_of, is_tile_row, opposite_floor, round_about
from tests.patch_samples import (FAR_STEP, T, added, dead_patches, far_floor, far_off, four_tiles_patch,
                                 living_patches, not_patches, own_numbers, right_papers, told_bounds)
from tests.samples import (E, W, check_error, edge_floors, long_floors, odd_integers, odd_values, regular_floors,
                           spoiled)

LIVING = living_patches()
DEAD = dead_patches()
FOLLOWING = (0, 1, 1, 0, 0)
BARRED = (1, 0, 0, 0, 0)
OPEN = (0, 1, 0, 0, 0)
OPEN_PAPER = ("open", ((2, 0, 3), (-3, 0, 5)), ((2, 0, 3), (-1, 0, 3)))
ONE_FUNCTIONS = (is_sure, is_barred, is_open, judge_sure)


def beside(patch, source, many):
    """Some corners near a patch, in floors that have it and in others."""
    found = []
    for _ in range(many):
        row = list(source.choice(patch))
        for _ in range(source.randint(0, 4)):
            row[source.randrange(5)] += source.choice((-1, 1))
        if 1 <= sum(row) <= 4:
            found.append(tuple(row))
    return found + list(round_about(a_floor(patch), patch[0], 2))[::3]


def kind_of(patch, corner):
    """Sure, barred or open, by [6.5]."""
    own, is_low = own_numbers(corner)
    sure = sure_lows(patch) if is_low else sure_highs(patch)
    if not any([is_below(a, b) if is_low else is_below(b, a) for a, b in zip(sure, own)]):
        return "sure"
    grown = tuple(sorted(set(patch + (corner,))))
    return "barred" if right_papers(*told_bounds(grown)) else "open"


def reaching(patch, corner):
    """For each direction the numbers of the sums that are as far as the own bound of the corner."""
    own, is_low = own_numbers(corner)
    found = []
    for r in range(5):
        sums = low_sums(patch, r) if is_low else high_sums(patch, r)
        found.append([at for at, number in enumerate(sums) if number is not None
                      and not (is_below(number, own[r]) if is_low else is_below(own[r], number))])
    return found


class Kinds(unittest.TestCase):
    def test_examples(self):
        self.assertIs(is_sure(T, FOLLOWING), True)
        self.assertIs(sure_holds(T, FOLLOWING, ("sure", (0, 0, 0, 0, 0))), True)
        self.assertIs(is_barred(T, BARRED), True)
        self.assertIs(sure_holds(T, BARRED, ("barred", ("pair", 1))), True)
        self.assertIs(is_open(T, OPEN), True)
        self.assertIs(sure_holds(T, OPEN, OPEN_PAPER), True)

    def test_exactly_one_kind(self):
        source = random.Random(21)
        seen = {"sure": 0, "barred": 0, "open": 0}
        for patch in LIVING:
            for corner in beside(patch, source, 12):
                kind = kind_of(patch, corner)
                seen[kind] += 1
                self.assertIs(is_sure(patch=patch, corner=corner), kind == "sure")
                self.assertIs(is_barred(patch=patch, corner=corner), kind == "barred")
                self.assertIs(is_open(patch=patch, corner=corner), kind == "open")
                paper = judge_sure(patch=patch, corner=corner)
                self.assertEqual(paper[0], kind)
                self.assertIs(sure_holds(thing=paper, corner=corner, patch=patch), True)
                self.check_paper(patch, corner, paper)
        self.assertTrue(min(seen.values()) > 100)

    def check_paper(self, patch, corner, paper):
        if paper[0] == "sure":
            for number, right in zip(paper[1], reaching(patch, corner)):
                self.assertIn(number, right)
            self.assertIs(has_corner(a_floor(patch), corner), True)
        elif paper[0] == "barred":
            grown = tuple(sorted(set(patch + (corner,))))
            self.assertIn(paper[1], right_papers(*told_bounds(grown)))
            self.assertIs(has_corner(a_floor(patch), corner), False)
        else:
            _, with_it, without_it = paper
            for pair, has_it in ((with_it, True), (without_it, False)):
                floor = Floor(pair[0], pair[1])
                self.assertEqual(whole_keys(floor), ())
                self.assertIs(has_patch(floor, patch), True)
                self.assertIs(has_corner(floor, corner), has_it)

    def test_corners_of_the_patch_are_sure(self):
        for patch in LIVING:
            for corner in patch[:12]:
                self.assertIs(is_sure(patch, corner), True)
                self.assertEqual(judge_sure(patch, corner)[0], "sure")
        for level in (1, 2, 3, 4):
            corner = (level, 0, 0, 0, 0)
            self.assertIs(is_sure((corner,), corner), True)
            self.assertEqual(sure_corners((corner,), 0), (corner,))

    def test_what_is_sure_is_in_all_floors(self):
        floors = regular_floors() + long_floors() + edge_floors() + [opposite_floor(E)]
        for floor in floors[::2]:
            around = round_about(floor, home_of(floor), 3)
            for patch in (around, around[::4]):
                sure = [corner for corner in round_about(floor, home_of(floor), 4) if is_sure(patch, corner)]
                self.assertTrue(set(patch) <= set(sure))
                for other in floors:
                    if has_patch(other, patch):
                        for corner in sure:
                            self.assertIs(has_corner(other, corner), True)
                for corner in round_about(floor, home_of(floor), 4)[::3]:
                    self.assertIs(is_barred(patch, corner), False)

    def test_patches_of_64_corners(self):
        full = round_about(E, home_of(E), 5)[:64]
        self.assertEqual(len(full), 64)
        rows = round_about(E, home_of(E), 7) + tuple([added(row, (1, -1, 0, 0, 0)) for row in full])
        seen = {}
        for corner in rows:
            paper = judge_sure(full, corner)
            seen[paper[0]] = True
            self.assertIs(sure_holds(full, corner, paper), True)
            self.check_paper(full, corner, paper)
            self.assertEqual(paper[0] != "barred", right_papers(*told_bounds(full + (corner,))) == [])
        self.assertEqual(sorted(seen), ["barred", "open", "sure"])

    def test_far_off(self):
        away = far_off(T)
        for corner in (FOLLOWING, BARRED, OPEN):
            far = added(corner, FAR_STEP)
            paper = judge_sure(away, far)
            self.assertEqual(paper[0], judge_sure(T, corner)[0])
            self.assertIs(sure_holds(away, far, paper), True)
        # A corner so far away is judged like any other.
        for floor in (E, far_floor(E)):
            for row in round_about(floor, added(home_of(E), FAR_STEP) if floor != E else home_of(E), 2):
                paper = judge_sure(T, row)
                self.assertEqual(paper[0], kind_of(T, row))
                self.assertIs(sure_holds(T, row, paper), True)


class Papers(unittest.TestCase):
    def test_all_numbers(self):
        cases = [(T, FOLLOWING), (T, T[0]), (T, OPEN), (LIVING[9], LIVING[9][0])]
        cases.append((a_lean_patch(LIVING[-4]), LIVING[-4][20]))
        for patch, corner in cases:
            right = reaching(patch, corner)
            for numbers in itertools.product(range(7), repeat=5):
                if sum(numbers) % 23 == 0 or all([number in row for number, row in zip(numbers, right)]):
                    holds = all([number in row for number, row in zip(numbers, right)])
                    self.assertIs(sure_holds(patch, corner, ("sure", numbers)), holds)

    def test_barred_papers(self):
        source = random.Random(22)
        papers = [(kind, r) for kind in ("pair", "lows", "highs", "lowgap", "highgap") for r in range(5)]
        seen = {}
        for patch in LIVING[::4]:
            for corner in beside(patch, source, 4):
                right = right_papers(*told_bounds(tuple(sorted(set(patch + (corner,))))))
                for paper in papers:
                    self.assertIs(sure_holds(patch, corner, ("barred", paper)), paper in right)
                    if paper in right:
                        seen[paper[0]] = True
        for corner in four_tiles_patch():
            rest = tuple([row for row in four_tiles_patch() if row != corner])
            if does_live(rest):
                self.assertIs(sure_holds(rest, corner, ("barred", ("highgap", 3))), True)
                seen["highgap"] = True
        self.assertTrue(len(seen) >= 4)

    def test_open_papers(self):
        _, with_it, without_it = OPEN_PAPER
        double = tuple([(a * 2, b * 2, d * 2) for a, b, d in with_it])
        self.assertIs(sure_holds(T, OPEN, ("open", double, without_it)), True)
        self.assertIs(sure_holds(T, OPEN, ("open", with_it, double)), False)
        self.assertIs(sure_holds(T, OPEN, ("open", without_it, with_it)), False)
        self.assertIs(sure_holds(T, OPEN, ("open", without_it, without_it)), False)
        self.assertIs(sure_holds(T, OPEN, ("open", with_it, with_it)), False)
        pairs = [floor.all_keys[:2] for floor in regular_floors() + edge_floors()] + [with_it, without_it]
        # At the edges of the region of T, where some keys are whole.
        pairs += [((2, 0, 3), (0, 0, 1)), ((2, 0, 3), (-2, 0, 3)), ((1, 0, 1), (-1, 0, 3)), ((2, 0, 3), (0, -1, 3))]
        pairs += [((1, 0, 2), (-1, 1, 3)), ((10 ** 50 - 1, 0, 10 ** 50), (-1, 0, 10 ** 50))]
        for one in pairs:
            for other in pairs:
                right = []
                for pair, has_it in ((one, True), (other, False)):
                    floor = Floor(pair[0], pair[1]) if is_regular(pair) else None
                    right.append(floor is not None and has_patch(floor, T) and has_corner(floor, OPEN) == has_it)
                self.assertIs(sure_holds(T, OPEN, ("open", one, other)), all(right))
                self.assertIs(sure_holds(T, FOLLOWING, ("open", one, other)), False)
                self.assertIs(sure_holds(T, BARRED, ("open", one, other)), False)

    def test_no_lives_in_barred(self):
        one, other = OPEN_PAPER[1]
        for corner in (FOLLOWING, BARRED, OPEN):
            self.assertIs(sure_holds(T, corner, ("barred", ("lives", one, other))), False)

    def test_papers_of_any_value(self):
        cases = [(FOLLOWING, ("sure", (0, 0, 0, 0, 0))), (BARRED, ("barred", ("pair", 1))), (OPEN, OPEN_PAPER)]
        more = [("sure", (0, 0, 0, 0, 7)), ("sure", (0, 0, 0, 0, -7)), ("sure", (0, 0, 0, 0, -1)), ("sure", 0),
                ("sure", (False, 0, 0, 0, 0)), ("sure", (0,) * 6), ("sure", [0] * 5), ("sure",), ("sure", (0,) * 5, 0),
                ("barred",), ("barred", 1), ("barred", "pair", 1), ("barred", ("pair", True)), ("barred", ["pair", 1]),
                ("barred", ("pair", 1), 0), ("barred", ([], 1)), ("barred", ("pair", 6)), ("barred", ({}, {})),
                ("open",) + OPEN_PAPER[1:2], ("open", list(OPEN_PAPER[1]), OPEN_PAPER[2]), OPEN_PAPER + (0,),
                ("open", OPEN_PAPER[1] + OPEN_PAPER[1][:1], OPEN_PAPER[2]), ("Open",) + OPEN_PAPER[1:],
                ("open", E, W), ("open", (E, E), (W, W)), ("open", ((2, 0, 0), (-3, 0, 5)), OPEN_PAPER[2]), "sure"]
        for corner, right in cases:
            self.assertIs(sure_holds(T, corner, right), True)
            self.assertIs(sure_holds(T, corner, list(right)), False)
            for other, paper in cases:
                self.assertIs(sure_holds(T, other, paper), other == corner or paper != right)
            for thing in odd_values() + more:
                self.assertIs(sure_holds(T, corner, thing), False)
            for thing in spoiled(right):
                self.assertIs(sure_holds(T, corner, thing), False)


def is_regular(pair):
    try:
        Floor(pair[0], pair[1])
    except Exception:
        return False
    return True


class Within(unittest.TestCase):
    def rows_within(self, patch, steps):
        found = {corner: True for corner in patch}
        last = list(patch)
        for _ in range(steps):
            further = []
            for row in last:
                for j in range(5):
                    for by in (-1, 1):
                        near = row[:j] + (row[j] + by,) + row[j + 1:]
                        if near not in found:
                            found[near] = True
                            further.append(near)
            last = further
        return [row for row in found if 1 <= sum(row) <= 4]

    def test_sure_corners(self):
        for patch in LIVING[:30:2] + LIVING[-2:]:
            for steps in (0, 1, 2) if len(patch) < 6 else (0, 1):
                right = sorted([row for row in self.rows_within(patch, steps) if kind_of(patch, row) == "sure"])
                found = sure_corners(patch=patch, steps=steps)
                self.assertEqual(found, tuple(right))
                self.assertEqual(found, sure_corners(patch, steps, most=len(found)))
                for most in (0, len(found) - 1):
                    check_error(self, TooMany, {"most": most}, sure_corners, patch, steps, most=most)
                tiles = []
                for row in found:
                    for r, s in itertools.combinations(range(5), 2):
                        if is_tile_row((row, r, s)) and set(corners_of((row, r, s))) <= set(found):
                            tiles.append((row, r, s))
                self.assertEqual(sure_tiles(patch=patch, steps=steps), tuple(sorted(tiles)))
                self.assertEqual(len(sure_tiles(patch, steps, most=len(tiles))), len(tiles))
                if tiles:
                    most = len(tiles) - 1
                    check_error(self, TooMany, {"most": most}, sure_tiles, patch, steps, most=most)

    def test_steps_through_levels(self):
        # Between two corners the numbers may add up to 0 or 5: steps count by the differences alone.
        patch = round_about(E, home_of(E), 5)[:64]
        for steps in (3, 5, 6):
            found = sure_corners(patch, steps)
            self.assertIs(all([is_sure(patch, row) for row in found]), True)
            for row in round_about(E, home_of(E), 9):
                is_near = min([sum([abs(a - b) for a, b in zip(row, corner)]) for corner in patch]) <= steps
                self.assertEqual(row in found, is_near and kind_of(patch, row) == "sure")
        self.assertEqual(sure_corners(far_off(patch), 6), tuple([added(row, FAR_STEP) for row in found]))

    def test_sure_tiles(self):
        for patch in LIVING[::5] + LIVING[-4:]:
            floor = a_floor(patch)
            for tile in sure_tiles(patch, 4):
                self.assertTrue(has_tile(floor, tile))
                self.assertTrue(all([is_sure(patch, corner) for corner in corners_of(tile)]))
        self.assertEqual(sure_tiles(T, 0), (((0, 0, 0, 0, 1), 0, 1),))
        # More corners than most are no matter, as long as the tiles are few.
        corners = sure_corners(T, 6)
        tiles = sure_tiles(T, 6, most=1)
        self.assertTrue(len(corners) > 20 and len(tiles) == 1)

    def test_great_most(self):
        check_error(self, TooMany, {"most": 10}, sure_corners, T, 6, most=10)
        self.assertEqual(sure_corners(T, 6), sure_corners(T, 6, most=10 ** 40))
        check_error(self, TooMany, {"most": 0}, sure_corners, T, 0, most=0)
        check_error(self, TooMany, {"most": 0}, sure_tiles, T, 0, most=0)
        self.assertEqual(sure_tiles(((1, 0, 0, 0, 0),), 6, most=0), ())
        for function in (sure_corners, sure_tiles):
            self.assertEqual(inspect.signature(function).parameters["most"].default, 4096)
            with self.assertRaises(TypeError):
                function(T, 1, 4096)


class Errors(unittest.TestCase):
    def test_wrong_patches(self):
        for thing in not_patches():
            told = {"thing": thing}
            for function in ONE_FUNCTIONS:
                check_error(self, BadPatch, told, function, thing, "x")
                check_error(self, BadPatch, told, function, corner=BARRED, patch=thing)
            check_error(self, BadPatch, told, sure_holds, thing, "x", "y")
            for function in (sure_corners, sure_tiles):
                check_error(self, BadPatch, told, function, thing, "x", most=0)
                check_error(self, BadPatch, told, function, steps=-1, patch=thing)

    def test_dead_patches(self):
        for patch in DEAD:
            self.assertIs(is_patch(patch), True)
            right = right_papers(*told_bounds(patch))
            for function in ONE_FUNCTIONS + (sure_corners, sure_tiles):
                for second in ("x", BARRED, -1):
                    with self.assertRaises(Dead) as caught:
                        function(patch, second)
                    self.assertIn(caught.exception.paper, right)
            with self.assertRaises(Dead) as caught:
                sure_holds(thing=("barred", right[0]), corner="x", patch=patch)
            self.assertIn(caught.exception.paper, right)

    def test_wrong_corners(self):
        for thing in odd_values() + spoiled(BARRED) + [(0, 0, 0, 0, 0), (1, 1, 1, 1, 1), T, 0]:
            told = {"thing": thing}
            for function in ONE_FUNCTIONS:
                check_error(self, BadCorner, told, function, T, thing)
                check_error(self, BadCorner, told, function, corner=thing, patch=T)
            check_error(self, BadCorner, told, sure_holds, T, thing, ("sure", (0, 0, 0, 0, 0)))
            check_error(self, BadCorner, told, sure_holds, thing="x", corner=thing, patch=T)

    def test_wrong_steps(self):
        for thing in odd_integers() + [-1, -10 ** 30]:
            for function in (sure_corners, sure_tiles):
                check_error(self, BadCount, {"thing": thing}, function, T, thing, most=0)
                check_error(self, BadCount, {"thing": thing}, function, steps=thing, patch=T)


if __name__ == "__main__":
    unittest.main()
