"""Part 6: papers for patches, sure bounds, patches that say the same, lean patches."""

import itertools
import random
import unittest

from nevertwice.bounds import has_patch, high_sums, low_sums
from nevertwice.errors import BadPatch, Dead
from nevertwice.floors import Floor, has_corner, home_of, whole_keys
from nevertwice.golden import is_below, is_whole, minus, plus, times
from nevertwice.patches import (a_floor, a_lean_patch, do_say_the_same, does_live, is_lean, judge_patch, patch_holds,
                                sure_highs, sure_lows)
from nevertwice.tiles import corners_of, round_about
from tests.patch_samples import (FOUR_TILES, KINDS, T, dead_patches, far_floor, far_off, four_tiles_patch,
                                 living_patches, not_patches, right_papers, told_bounds)
from tests.samples import E, W, check_error, edge_floors, long_floors, odd_values, regular_floors, spoiled

LIVING = living_patches()
DEAD = dead_patches()
PAPERS = [(kind, r) for kind in KINDS for r in range(5)]
PAIR = ((0, 1, 0, 0, 0), (1, 0, 0, 0, 0))


def dead_paper(case, call, *args, **named):
    """The paper with which a call raises Dead."""
    with case.assertRaises(Dead) as caught:
        call(*args, **named)
    case.assertEqual(list(vars(caught.exception)), ["paper"])
    return caught.exception.paper


def left_out(patch, corner):
    return tuple([row for row in patch if row != corner])


def floors_within(patch, many, source):
    """Some regular floors that have the patch, found near one that is told."""
    found = []
    one, other = a_floor(patch).all_keys[:2]
    for scale in (10 ** 3, 10 ** 2, 30, 10):
        for _ in range(many):
            moves = [(source.randint(-9, 9), 0, scale) for _ in range(2)]
            floor_keys = plus(one, moves[0]), plus(other, moves[1])
            if not any([is_whole(key) for key in five_keys(*floor_keys)]):
                floor = Floor(floor_keys[0], floor_keys[1])
                if has_patch(floor, patch):
                    found.append(floor)
    return found


def five_keys(one, other):
    keys = [one, other]
    while len(keys) < 5:
        keys.append(minus(times((0, -1, 1), keys[-1]), keys[-2]))
    return keys


class Papers(unittest.TestCase):
    def test_examples(self):
        self.assertIs(patch_holds(PAIR, ("lows", 0)), True)
        self.assertIs(patch_holds(PAIR, ("lows", 1)), True)
        self.assertIs(does_live(PAIR), False)
        self.assertIs(patch_holds(((0, 0, 1, 0, 1), (1, 0, 0, 0, 0)), ("pair", 4)), True)
        self.assertIs(does_live(T), True)
        self.assertEqual(right_papers(*told_bounds(four_tiles_patch())), [("highgap", 3)])
        self.assertEqual(judge_patch(four_tiles_patch()), ("highgap", 3))
        for one, other in itertools.combinations(FOUR_TILES, 2):
            self.assertIs(does_live(tuple(sorted(set(corners_of(one) + corners_of(other))))), True)

    def test_living_patches(self):
        for patch in LIVING:
            self.assertIs(does_live(patch=patch), True)
            paper = judge_patch(patch=patch)
            self.assertEqual((len(paper), paper[0]), (3, "lives"))
            self.assertIs(patch_holds(thing=paper, patch=patch), True)
            floor = Floor(paper[1], paper[2])
            self.assertEqual(whole_keys(floor), ())
            self.assertIs(has_patch(floor, patch), True)
            for told in PAPERS:
                self.assertIs(patch_holds(patch, told), False)

    def test_dead_patches(self):
        seen = {}
        for patch in DEAD:
            self.assertIs(does_live(patch), False)
            right = right_papers(*told_bounds(patch))
            self.assertIn(judge_patch(patch), right)
            for paper in PAPERS:
                self.assertIs(patch_holds(patch, paper), paper in right)
                if paper in right and len(set([kind for kind, _ in right])) == 1:
                    seen[paper] = True
            for floor in regular_floors():
                self.assertIs(patch_holds(patch, ("lives",) + floor.all_keys[:2]), False)
        self.assertEqual(sorted(seen), sorted(PAPERS))

    def test_many_small_patches(self):
        near = [row for row in itertools.product((0, 1), repeat=5) if 1 <= sum(row) <= 4]
        source = random.Random(4)
        for _ in range(400):
            patch = tuple(sorted(source.sample(near, source.randint(1, 5))))
            right = right_papers(*told_bounds(patch))
            self.assertIs(does_live(patch), right == [])
            paper = judge_patch(patch)
            self.assertIs(patch_holds(patch, paper), True)
            if right:
                self.assertIn(paper, right)
            else:
                self.assertIs(has_patch(Floor(paper[1], paper[2]), patch), True)

    def test_lives_tells_regular_floors_with_the_patch(self):
        source = random.Random(6)
        for patch in LIVING[::4]:
            for floor in regular_floors() + [far_floor(E)] + floors_within(patch, 2, source):
                paper = ("lives",) + floor.all_keys[:2]
                self.assertIs(patch_holds(patch, paper), has_patch(floor, patch))
                longer = tuple([(a * 6, b * 6, d * 6) for a, b, d in floor.all_keys[:2]])
                self.assertIs(patch_holds(patch, ("lives",) + longer), has_patch(floor, patch))
        for floor in edge_floors():
            # A floor at the edge has this patch, and yet it is told by no paper.
            patch = round_about(floor, home_of(floor), 2)
            self.assertIs(has_patch(floor, patch) and does_live(patch), True)
            self.assertIs(patch_holds(patch, ("lives",) + floor.all_keys[:2]), False)
        for floor in long_floors():
            patch = round_about(floor, home_of(floor), 4)[:64]
            self.assertIs(patch_holds(patch, ("lives",) + floor.all_keys[:2]), True)
            self.assertIs(has_patch(a_floor(patch), patch), True)
        # Just at a bound of T, and beyond it, and within.
        for t_1, is_right in (((0, 0, 1), False), ((1, 0, 10 ** 119), False), ((-1, 0, 10 ** 119), True)):
            self.assertIs(patch_holds(T, ("lives", (1, 0, 3), t_1)), is_right)

    def test_missing_bounds(self):
        # Patches of one kind of levels have bounds of one kind, and papers that name others are not right.
        for patch in (PAIR, ((1, 0, 0, 0, 0),)):
            for kind in ("pair", "highs", "lowgap", "highgap"):
                for r in range(5):
                    self.assertIs(patch_holds(patch, (kind, r)), False)
        for level in (1, 2, 3, 4):
            patch = ((level, 0, 0, 0, 0),)
            self.assertIs(does_live(patch), True)
            for paper in PAPERS:
                self.assertIs(patch_holds(patch, paper), False)

    def test_papers_of_any_value(self):
        floor = a_floor(T)
        paper = ("lives",) + floor.all_keys[:2]
        self.assertIs(patch_holds(T, paper), True)
        wrong = [("lives", floor.all_keys[0]), ("lives", floor.all_keys[:2]), list(paper), ("live",) + paper[1:],
                 ("lives", list(paper[1]), paper[2]), ("lives", paper[1], (paper[2][0], paper[2][1], 0)),
                 ("lives", paper[1], paper[2], 0), ("lives", floor), ("lives", floor, floor), ("lives", 0, 0)]
        for thing in odd_values() + wrong + spoiled(paper):
            self.assertIs(patch_holds(T, thing), False)
        dead = ((0, 0, 1, 0, 1), (1, 0, 0, 0, 0))
        wrong = [("pair", 4, 0), ("pair",), ("pair", True), ("pair", 9), ("pair", -1), ["pair", 4], ("Pair", 4),
                 ("pair", (4,)), ("pair", "4"), ("lives", 4), ([], 4), ({}, 4), (E, 4), ((), 4), (4, "pair"), "pair",
                 ("", 4), (None, None), ("pair", (0, 0, 1)), ("pairs", 4)]
        for thing in odd_values() + wrong + spoiled(("pair", 4)):
            self.assertIs(patch_holds(dead, thing), False)
        self.assertIs(patch_holds(dead, ("pair", 4)), True)
        one_true = ((0, 0, 0, 1, 0), (0, 1, 0, 0, 0), (1, 0, 0, 0, 0))
        for paper in right_papers(*told_bounds(one_true)):
            if paper[1] in (0, 1):
                self.assertIs(patch_holds(one_true, paper), True)
                self.assertIs(patch_holds(one_true, (paper[0], bool(paper[1]))), False)

    def test_wrong_patches(self):
        functions = (does_live, judge_patch, a_floor, sure_lows, sure_highs, is_lean, a_lean_patch)
        for thing in not_patches():
            told = {"thing": thing}
            for function in functions:
                check_error(self, BadPatch, told, function, thing)
                check_error(self, BadPatch, told, function, patch=thing)
            check_error(self, BadPatch, told, patch_holds, thing, ("pair", 4))
            check_error(self, BadPatch, told, patch_holds, thing=0, patch=thing)
            check_error(self, BadPatch, told, do_say_the_same, thing, "x")
            check_error(self, BadPatch, told, do_say_the_same, other=PAIR, one=thing)
            check_error(self, BadPatch, told, do_say_the_same, T, thing)

    def test_dead_ones_are_refused(self):
        for patch in DEAD:
            right = right_papers(*told_bounds(patch))
            for function in (a_floor, sure_lows, sure_highs, is_lean, a_lean_patch):
                self.assertIn(dead_paper(self, function, patch), right)
                self.assertIn(dead_paper(self, function, patch=patch), right)
            self.assertIn(dead_paper(self, do_say_the_same, patch, "x"), right)
            self.assertIn(dead_paper(self, do_say_the_same, one=T, other=patch), right)
            self.assertIn(dead_paper(self, do_say_the_same, patch, T), right)


class SureBounds(unittest.TestCase):
    def test_example(self):
        self.assertEqual(sure_lows(T), told_bounds(T)[0])
        self.assertEqual(sure_highs(T), told_bounds(T)[1])

    def test_floors(self):
        for patch in LIVING:
            floor = a_floor(patch=patch)
            self.assertEqual((floor.side, whole_keys(floor)), ((0, 0, 0, 0, 0), ()))
            self.assertTrue(all([has_corner(floor, corner) for corner in patch]))

    def test_the_greatest_and_the_least_sums(self):
        for patch in LIVING:
            lows, highs = sure_lows(patch=patch), sure_highs(patch=patch)
            for r in range(5):
                below = [number for number in low_sums(patch, r) if number is not None]
                above = [number for number in high_sums(patch, r) if number is not None]
                self.assertIn(lows[r], below)
                self.assertIn(highs[r], above)
                self.assertFalse(any([is_below(lows[r], number) for number in below]))
                self.assertFalse(any([is_below(number, highs[r]) for number in above]))
                self.assertTrue(is_below(lows[r], highs[r]))

    def test_nothing_better_is_sure(self):
        # Wherever a key is less than a very little beyond its sure bound, some floor still has the patch.
        for patch in LIVING[::3]:
            for r, low in enumerate(sure_lows(patch)):
                self.assertTrue(has_floor_with_key(patch, r, low, plus(low, (1, 0, 10 ** 9))))
            for r, high in enumerate(sure_highs(patch)):
                self.assertTrue(has_floor_with_key(patch, r, minus(high, (1, 0, 10 ** 9)), high))


def has_floor_with_key(patch, r, low, high):
    """Whether some floor with the patch has a key at r between two numbers, by the papers for bounds."""
    lows, highs = [list(five) for five in told_bounds(patch)]
    lows[r] = low if lows[r] is None or is_below(lows[r], low) else lows[r]
    highs[r] = high if highs[r] is None or is_below(high, highs[r]) else highs[r]
    return right_papers(lows, highs) == []


class Saying(unittest.TestCase):
    def test_same(self):
        source = random.Random(13)
        for patch in LIVING[:40:2] + LIVING[-4:]:
            for other in [patch, a_lean_patch(patch), patch[:1], left_out(patch, source.choice(patch)), T]:
                if other == ():
                    continue
                one_floor, other_floor = a_floor(patch), a_floor(other)
                same = do_say_the_same(one=patch, other=other)
                self.assertIs(do_say_the_same(other, patch), same)
                right = sure_lows(patch) == sure_lows(other) and sure_highs(patch) == sure_highs(other)
                self.assertIs(same, right)
                if same:
                    self.assertIs(has_patch(one_floor, other) and has_patch(other_floor, patch), True)
                    for floor in floors_within(patch, 3, source) + floors_within(other, 3, source):
                        self.assertIs(has_patch(floor, patch), has_patch(floor, other))
        self.assertIs(do_say_the_same(T, T), True)
        self.assertIs(do_say_the_same(T, far_off(T)), False)

    def test_a_corner_that_follows(self):
        # All floors with T have the corner (0, 1, 1, 0, 0), and some have (0, 1, 0, 0, 0).
        self.assertIs(do_say_the_same(T, tuple(sorted(T + ((0, 1, 1, 0, 0),)))), True)
        self.assertIs(do_say_the_same(T, tuple(sorted(T + ((0, 1, 0, 0, 0),)))), False)

    def test_lean_patches(self):
        for patch in LIVING:
            lean = a_lean_patch(patch=patch)
            self.assertTrue(len(lean) >= 1 and set(lean) <= set(patch))
            self.assertEqual(lean, tuple(sorted(lean)))
            self.assertIs(do_say_the_same(lean, patch), True)
            self.assertIs(is_lean(lean), True)
            spare = [corner for corner in patch if len(patch) > 1 and do_say_the_same(left_out(patch, corner), patch)]
            self.assertIs(is_lean(patch=patch), spare == [])
            if spare == []:
                self.assertEqual(lean, patch)
            for corner in lean:
                if len(lean) > 1:
                    self.assertIs(do_say_the_same(left_out(lean, corner), patch), False)
        lengths = [is_lean(patch) for patch in LIVING]
        self.assertTrue(True in lengths and False in lengths)
        for level in (1, 2, 3, 4):
            self.assertIs(is_lean(((level, 0, 0, 0, 0),)), True)
            self.assertEqual(a_lean_patch(((level, 0, 0, 0, 0),)), ((level, 0, 0, 0, 0),))

    def test_errors_come_in_order(self):
        dead = four_tiles_patch()
        check_error(self, BadPatch, {"thing": 5}, do_say_the_same, 5, 6)
        self.assertEqual(dead_paper(self, do_say_the_same, dead, 6), ("highgap", 3))
        check_error(self, BadPatch, {"thing": 6}, do_say_the_same, T, 6)
        self.assertEqual(dead_paper(self, do_say_the_same, T, dead), ("highgap", 3))
        self.assertIn(dead_paper(self, do_say_the_same, PAIR, dead)[0], ("lows",))

    def test_edges_have_the_patch_as_those_beside_them(self):
        self.assertIs(does_live(round_about(W, home_of(W), 3)[:64]), True)


if __name__ == "__main__":
    unittest.main()
