"""Part 5: moves and motions."""

import itertools
import random
import unittest

from nevertwice.corners import both, done, shadow_of, undone
from nevertwice.errors import BadMotion, BadStep
from nevertwice.floors import Floor, has_corner, home_of, sides
from nevertwice.golden import is_whole, minus, plus, times
from nevertwice.moving import (are_like, floor_done, is_led_to_itself, judge_move, least_keys, motions_between,
                               move_between, move_holds, moved)
from nevertwice.tiles import opposite_floor, round_about
from tests.patch_samples import FAR_STEP, added
from tests.samples import (ALL_WHOLE, E, W, all_sided, check_error, edge_floors, nearly, odd_values, regular_floors,
                           spoiled)

FLOORS = regular_floors() + edge_floors()
ZEROS = (0, 0, 0, 0, 0)
STEPS = [ZEROS, (1, 0, 0, 0, -1), (-2, 3, 0, 5, -6), (7, -7, 0, 0, 0), FAR_STEP]
MOTIONS = list(itertools.product(range(5), (0, 1), (0, 1)))
ROUND = Floor((3, -1, 5), (3, -1, 5))
HALVES = all_sided((0, 0, 1), (1, 0, 2))
NEAR = [row for row in itertools.product((-1, 0, 1, 2), repeat=5) if 1 <= sum(row) <= 4]


def right_papers(one, other):
    """All right papers of [5.1], by what it says."""
    differences = [minus(b, a) for a, b in zip(one.all_keys, other.all_keys)]
    papers = [("unlike", r) for r in range(5) if not is_whole(differences[r])]
    if not papers and one.side != other.side:
        papers = [("sides",)]
    if not papers:
        step = [-b for _, b, _ in differences]
        assert shadow_of(tuple(step)) == tuple(differences) and sum(step) == 0
        papers = [("moved", tuple(step))]
    return papers


class Moves(unittest.TestCase):
    def test_examples(self):
        other = moved(E, (1, 0, 0, 0, -1))
        self.assertEqual(other.all_keys, ((1, -3, 3), (4, 0, 3), (-1, -1, 3), (-3, 2, 3), (-1, 2, 3)))
        self.assertEqual(move_between(E, other), (1, 0, 0, 0, -1))
        self.assertEqual(least_keys(E), ((1, 0, 3), (1, 0, 3)))
        self.assertEqual(least_keys(other), ((1, 0, 3), (1, 0, 3)))
        unlike = Floor((1, 0, 3), (1, 0, 2))
        self.assertIs(move_holds(E, unlike, ("unlike", 1)), True)
        self.assertIs(move_holds(E, unlike, ("unlike", 0)), False)
        self.assertEqual(judge_move(HALVES[0], HALVES[1]), ("sides",))
        self.assertIs(move_holds(HALVES[0], HALVES[1], ("sides",)), True)

    def test_moved_floors(self):
        for floor in FLOORS:
            for step in STEPS:
                other = moved(step=step, floor=floor)
                self.assertEqual(other.side, floor.side)
                for key, part, key_moved in zip(floor.all_keys, shadow_of(step), other.all_keys):
                    self.assertEqual(plus(key, part), key_moved)
                for row in round_about(floor, home_of(floor), 2):
                    self.assertTrue(has_corner(other, added(row, step)))
                for row in NEAR[::17]:
                    self.assertIs(has_corner(other, added(row, step)), has_corner(floor, row))
                self.assertEqual(move_between(one=floor, other=other), step)
                self.assertEqual(move_between(other, floor), tuple([-part for part in step]))
                self.assertEqual(moved(other, move_between(other, floor)), floor)
                self.assertEqual(judge_move(one=floor, other=other), ("moved", step))
                self.assertIs(move_holds(floor, other, ("moved", step)), True)
                self.assertEqual(least_keys(floor=other), least_keys(floor))

    def test_no_step_leads_a_floor_to_itself(self):
        for floor in FLOORS:
            self.assertEqual(move_between(floor, floor), ZEROS)
            for step in STEPS[1:]:
                self.assertTrue(moved(floor, step) != floor)
                self.assertIs(move_holds(floor, floor, ("moved", step)), False)

    def test_papers(self):
        others = FLOORS + [moved(floor, STEPS[2]) for floor in FLOORS[::3]] + [Floor((1, 0, 3), (1, 0, 2))]
        others += [Floor((1, 3, 3), (-2, 1, 3)), Floor((4, 0, 3), (1, 0, 2)), HALVES[0], HALVES[1]]
        seen = {}
        for one in others[::2]:
            for other in others:
                right = right_papers(one, other)
                seen[right[0][0]] = True
                self.assertIn(judge_move(one, other), right)
                self.assertEqual(move_between(one, other), right[0][1] if right[0][0] == "moved" else None)
                possible = [("unlike", r) for r in range(5)] + [("sides",), ("moved", ZEROS), ("moved", STEPS[2])]
                for paper in possible + right:
                    self.assertIs(move_holds(thing=paper, other=other, one=one), paper in right)
        self.assertEqual(sorted(seen), ["moved", "sides", "unlike"])

    def test_sides_alone(self):
        for one, other in itertools.permutations(all_sided((0, 0, 1), (0, 0, 1)), 2):
            away = moved(other, (3, 0, -1, 0, -2))
            self.assertEqual(judge_move(one, away), ("sides",))
            self.assertIsNone(move_between(one, away))
            self.assertIs(move_holds(one, away, ("sides",)), True)
            self.assertIs(move_holds(one, away, ("moved", (3, 0, -1, 0, -2))), False)
        # Unlike sides, but the keys differ by no whole numbers.
        self.assertIs(move_holds(HALVES[0], ALL_WHOLE, ("sides",)), False)
        self.assertIs(move_holds(E, W, ("sides",)), False)

    def test_papers_of_any_value(self):
        other = moved(E, (1, 0, 0, 0, -1))
        wrong = [("moved", [1, 0, 0, 0, -1]), ("moved", (True, 0, 0, 0, -1)), ["moved", (1, 0, 0, 0, -1)],
                 ("moved",), ("moved", (1, 0, 0, 0, -1), 0), (E, (1, 0, 0, 0, -1)), ("sides",), ("unlike", 0),
                 ("moved", (1, 0, 0, 0, 0)), ("moved", 0), ({}, []), (1, 0, 0, 0, -1), "moved", 0]
        for thing in odd_values() + wrong + spoiled(("moved", (1, 0, 0, 0, -1))):
            self.assertIs(move_holds(E, other, thing), False)
        for thing in odd_values() + spoiled(("unlike", 1)) + [("unlike", True), ("unlike", 5), ("unlike", -4),
                                                              ("Unlike", 1), ("unlike", (1,)), ("unlike", "1")]:
            self.assertIs(move_holds(E, Floor((1, 0, 3), (1, 0, 2)), thing), False)
        for thing in odd_values() + spoiled(("sides",)) + ["sides", ["sides"], ("sides", ()), ("sides", 0), ("side",)]:
            self.assertIs(move_holds(HALVES[0], HALVES[1], thing), False)

    def test_wrong_steps(self):
        for floor in (E, W):
            for thing in odd_values() + spoiled(STEPS[1]) + [(1, 0, 0, 0, 0), (0, 0, 0, 0), list(ZEROS), 0]:
                check_error(self, BadStep, {"thing": thing}, moved, floor, thing)
                check_error(self, BadStep, {"thing": thing}, moved, step=thing, floor=floor)


class Motions(unittest.TestCase):
    def test_examples(self):
        self.assertEqual(floor_done((1, 1, 0), E), E)
        self.assertEqual(motions_between(E, E), (((0, 0, 0), ZEROS), ((1, 1, 0), ZEROS)))
        self.assertEqual(len(motions_between(ROUND, ROUND)), 10)

    def test_corners(self):
        for floor in FLOORS:
            for motion in MOTIONS:
                other = floor_done(motion=motion, floor=floor)
                for row in round_about(floor, home_of(floor), 2):
                    self.assertTrue(has_corner(other, done(motion, row)))
                for row in NEAR[::41]:
                    self.assertIs(has_corner(other, done(motion, row)), has_corner(floor, row))
                self.assertEqual(floor_done(undone(motion), other), floor)
            self.assertEqual(floor_done((0, 0, 0), floor), floor)
            self.assertEqual(floor_done((0, 0, 1), floor), opposite_floor(floor))

    def test_keys_and_sides(self):
        for floor in FLOORS:
            for q, m, o in MOTIONS:
                other = floor_done((q, m, o), floor)
                for five, five_done in ((floor.all_keys, other.all_keys), (floor.side, other.side)):
                    led = [five[-r if m else r] for r in range(5)]
                    led = [led[(r - q) % 5] for r in range(5)]
                    if o:
                        led = [(-x[0], -x[1], x[2]) if isinstance(x, tuple) else -x for x in led]
                    self.assertEqual(five_done, tuple(led))

    def test_one_after_the_other(self):
        for floor in (E, W, ALL_WHOLE):
            for first in MOTIONS:
                for second in MOTIONS:
                    done_in_turn = floor_done(second, floor_done(first, floor))
                    self.assertEqual(done_in_turn, floor_done(both(first, second), floor))

    def test_motions_between(self):
        source = random.Random(2)
        for floor in FLOORS + [ROUND]:
            for motion in source.sample(MOTIONS, 4):
                step = source.choice(STEPS)
                other = moved(floor_done(motion, floor), step)
                found = motions_between(one=floor, other=other)
                right = []
                for turns in MOTIONS:
                    papers = right_papers(floor_done(turns, floor), other)
                    if papers[0][0] == "moved":
                        right.append((turns, papers[0][1]))
                self.assertEqual(found, tuple(sorted(right)))
                self.assertIn((motion, step), found)
                self.assertIs(are_like(other=other, one=floor), True)
                self.assertIs(are_like(other, floor), True)
        self.assertEqual(motions_between(E, W), ())
        self.assertIs(are_like(E, W), False)
        self.assertIs(are_like(E, Floor((1, 0, 3), (1, 0, 7))), False)
        # The sides of one whole key are led to one another by opposites only.
        self.assertIs(are_like(HALVES[0], HALVES[1]), any([
            floor_done(motion, HALVES[0]).side == HALVES[1].side
            and right_papers(floor_done(motion, HALVES[0]), HALVES[1])[0][0] == "moved" for motion in MOTIONS]))

    def test_floors_that_are_led_to_themselves(self):
        round_floors = [Floor(times((m, 0, 1), (3, -1, 5)), times((m, 0, 1), (3, -1, 5))) for m in range(1, 5)]
        for floor in FLOORS + round_floors + HALVES + [moved(ROUND, FAR_STEP)]:
            found = motions_between(floor, floor)
            self.assertIn(len(found), (1, 2, 10))
            own = [motion for motion, _ in found]
            for motion in MOTIONS:
                self.assertIs(is_led_to_itself(motion=motion, floor=floor), motion in own)
            for first in own:
                self.assertEqual(first[2], 0)
                for second in own:
                    self.assertIn(both(first, second), own)
            whole = [is_whole(minus(floor.all_keys[0], key)) for key in floor.all_keys]
            is_round = all(whole) and floor.side == ZEROS
            self.assertEqual(len(found) == 10, is_round)
            self.assertIs(is_led_to_itself((1, 0, 0), floor), is_round)
        for one, other in itertools.combinations(round_floors, 2):
            self.assertIsNone(move_between(one, other))
        lengths = [len(motions_between(floor, floor)) for floor in all_sided((0, 0, 1), (0, 0, 1))]
        self.assertEqual(lengths, [2] * 10)
        self.assertEqual(len(motions_between(Floor((1, 0, 7), (2, 1, 9)), Floor((1, 0, 7), (2, 1, 9)))), 1)

    def test_edges_are_led_as_floors_beside_them(self):
        for floor in edge_floors():
            for motion in MOTIONS[::3]:
                other = floor_done(motion, floor)
                beside = floor_done(motion, nearly(floor))
                for row in round_about(other, home_of(other), 1):
                    self.assertTrue(has_corner(beside, row))

    def test_wrong_motions(self):
        wrong = [(5, 0, 0), (-1, 0, 0), (0, 2, 0), (0, 0, 2), (0, 0, -1), (0, True, 0), [0, 0, 0], (0, 0), 0]
        for floor in (E, ALL_WHOLE):
            for thing in [part for part in odd_values() if part != (1, 0, 1)] + spoiled((1, 1, 0)) + wrong:
                told = {"thing": thing}
                for function in (floor_done, is_led_to_itself):
                    check_error(self, BadMotion, told, function, thing, floor)
                    check_error(self, BadMotion, told, function, floor=floor, motion=thing)


class LeastKeys(unittest.TestCase):
    def test_least_keys(self):
        for floor in FLOORS:
            for step in STEPS:
                pair = least_keys(moved(floor, step))
                self.assertEqual(len(pair), 2)
                for (a, b, d), key in zip(pair, floor.all_keys):
                    self.assertTrue(0 <= a < d and 0 <= b < d)
                    self.assertEqual(d, key[2])
                    self.assertTrue(is_whole(minus((a, b, d), key)))
                if floor.side == ZEROS:
                    self.assertIsNotNone(move_between(floor, Floor(pair[0], pair[1])))

    def test_the_same_but_for_a_move(self):
        others = FLOORS + [moved(floor, STEPS[1]) for floor in FLOORS] + [Floor((4, 3, 3), (-2, 0, 3))]
        for one in others[::2]:
            for other in others:
                is_same = least_keys(one) == least_keys(other) and one.side == other.side
                self.assertEqual(is_same, judge_move(one, other)[0] == "moved")

    def test_long_keys(self):
        long = Floor((10 ** 119 + 1, -10 ** 118, 10 ** 119 - 3), (7, 10 ** 119, 10 ** 118 + 9))
        other = moved(long, FAR_STEP)
        self.assertEqual(move_between(long, other), FAR_STEP)
        self.assertEqual(least_keys(long), least_keys(other))
        self.assertEqual(motions_between(long, other), (((0, 0, 0), FAR_STEP),))
        self.assertEqual(sides(long.all_keys[0], long.all_keys[1]), (ZEROS,))


if __name__ == "__main__":
    unittest.main()
