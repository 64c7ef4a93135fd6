"""Part 9: gathered and cut floors."""

import unittest

from nevertwice.corners import is_corner_row
from nevertwice.errors import BadCorner, BadCount
from nevertwice.floors import Floor, has_corner, home_of, rest_of
from nevertwice.gathering import (cut_corner, cut_floor, gathered, gathered_corner, gathered_times, is_great,
                                  round_length)
from nevertwice.golden import is_below, minus, plus, times
from nevertwice.moving import judge_move, move_between, moved
from nevertwice.tiles import round_about
from tests.patch_samples import FAR_STEP, far_floor
from tests.samples import (ALL_WHOLE, E, W, all_sided, check_error, edge_floors, long_floors, nearly, odd_integers,
                           odd_values, regular_floors, spoiled)

EDGES = edge_floors()
FLOORS = regular_floors() + long_floors() + EDGES
MINUS_G = (0, -1, 1)
ONE_LESS_G = (1, -1, 1)
ROWS = [(1, 0, 0, 0, 0), (2, -3, 1, 4, -3), (0, 0, 1, 0, 1), (1, 1, 0, 2, 0), (3, -9, 4, 5, 0), (1, 1, 1, 1, 0),
        (10 ** 60 - 1, 2 - 10 ** 60, 7, -7, 1)]


def led(floor, factor):
    """The floor with these times the keys, and the side with all signs changed."""
    return Floor(times(factor, floor.all_keys[0]), times(factor, floor.all_keys[1]),
                 tuple([-part for part in floor.side]))


def is_great_by(floor, corner):
    """By the words of [9.1], for a regular floor."""
    rests = [rest_of(floor, corner, r) for r in range(5)]
    level = sum(corner)
    if level == 3:
        return all([is_below((2, -1, 1), rest) for rest in rests])
    return level != 2 or all([is_below(rest, (1, 0, 1)) for rest in rests])


def greatest_rests(corner, rests):
    """The rests of the corner that is cut from a corner with these rests."""
    lesser = (-1, 1, 1)
    found = []
    for rest in rests:
        part = times(lesser, rest)
        found.append({1: minus((1, 0, 1), part), 2: minus(lesser, part), 3: minus((0, 1, 1), part),
                      4: minus(times((2, 0, 1), lesser), part)}[sum(corner)])
    return found


class GatheredFloors(unittest.TestCase):
    def test_examples(self):
        self.assertEqual(gathered(E).all_keys, ((0, -1, 3), (0, -1, 3), (1, 2, 3), (-2, -2, 3), (1, 2, 3)))
        home = (0, 0, 1, 0, 1)
        self.assertIs(is_great(E, home), True)
        self.assertEqual(gathered_corner(home), (1, 1, 0, 2, 0))
        self.assertEqual(cut_corner((1, 1, 0, 2, 0)), home)
        self.assertEqual(round_length(E), 8)

    def test_keys_and_sides(self):
        for floor in FLOORS:
            self.assertEqual(gathered(floor=floor), led(floor, MINUS_G))
            self.assertEqual(cut_floor(floor=floor), led(floor, ONE_LESS_G))
            self.assertEqual(cut_floor(gathered(floor)), floor)
            self.assertEqual(gathered(cut_floor(floor)), floor)

    def test_many_times(self):
        for floor in FLOORS:
            greater = lesser = floor
            for many in range(8):
                self.assertEqual(gathered_times(floor, many), greater)
                self.assertEqual(gathered_times(many=-many, floor=floor), lesser)
                greater = gathered(greater)
                lesser = cut_floor(lesser)
            self.assertEqual(gathered_times(gathered_times(floor, 400), -400), floor)
            self.assertEqual(gathered_times(gathered_times(floor, -399), 400), gathered(floor))
        for thing in odd_integers() + [401, -401, 10 ** 60]:
            check_error(self, BadCount, {"thing": thing}, gathered_times, E, thing)
            check_error(self, BadCount, {"thing": thing}, gathered_times, many=thing, floor=W)

    def test_the_corners_of_the_gathered_floor(self):
        for floor in FLOORS[:4] + FLOORS[5:7] + EDGES + [far_floor(E)]:
            greater = gathered(floor)
            beside = nearly(floor)
            for corner in round_about(floor, home_of(floor), 3):
                right = is_great_by(beside, corner)
                self.assertIs(is_great(corner=corner, floor=floor), right)
                found = gathered_corner(corner)
                self.assertEqual(cut_corner(found), corner)
                self.assertEqual(sum(found), (0, 2, 4, 1, 3)[sum(corner)])
                self.assertIs(has_corner(greater, found), right)
            for corner in round_about(greater, home_of(greater), 2):
                lesser = cut_corner(corner=corner)
                self.assertIs(has_corner(floor, lesser), True)
                self.assertIs(is_great(floor, lesser), True)
                self.assertEqual(gathered_corner(corner=lesser), corner)
                rests = [rest_of(greater, corner, r) for r in range(5)]
                self.assertEqual([rest_of(floor, lesser, r) for r in range(5)], greatest_rests(corner, rests))

    def test_ties(self):
        # In these floors the rests of the home are at the bounds.
        many = 0
        for floor in all_sided((0, 0, 1), (0, 0, 1)) + all_sided((1, 1, 1), (0, 2, 1)):
            for corner in round_about(floor, home_of(floor), 2):
                bound = {2: (1, 0, 1), 3: (2, -1, 1)}.get(sum(corner))
                if bound in [rest_of(floor, corner, r) for r in range(5)]:
                    many += 1
                    self.assertIs(is_great(floor, corner), is_great_by(nearly(floor), corner))
        self.assertGreater(many, 20)

    def test_any_corner_can_be_led(self):
        for row in ROWS:
            part = 0 if sum(row) <= 2 else 1
            found = gathered_corner(row)
            self.assertEqual(found, tuple([row[j - 1] + row[(j + 1) % 5] - part for j in range(5)]))
            self.assertIs(is_corner_row(found), True)
            self.assertEqual(cut_corner(found), row)
            self.assertEqual(gathered_corner(cut_corner(row)), row)

    def test_wrong_corners(self):
        for thing in odd_values() + spoiled((1, 1, 0, 2, 0)) + [(0, 0, 0, 0, 0), (1, 1, 1, 1, 1), 0]:
            if thing == (1, 1, 0, 2, 0):
                continue
            check_error(self, BadCorner, {"thing": thing}, gathered_corner, thing)
            check_error(self, BadCorner, {"thing": thing}, gathered_corner, corner=thing)
            check_error(self, BadCorner, {"thing": thing}, cut_corner, thing)
            check_error(self, BadCorner, {"thing": thing}, cut_corner, corner=thing)
            check_error(self, BadCorner, {"thing": thing}, is_great, E, thing)
        check_error(self, BadCorner, {"thing": (1, 0, 0, 0, 0)}, is_great, E, (1, 0, 0, 0, 0))


class Rounds(unittest.TestCase):
    def test_round_length(self):
        keys = [((1, 0, d), (k, 1, d)) for d in range(2, 13) for k in (0, 3)]
        floors = [Floor(one, other) for one, other in keys if Floor(one, other, self.side_of(one, other)).side[0] == 0
                  and not any(self.side_of(one, other))]
        self.assertGreater(len(floors), 12)
        for floor in floors + EDGES[::2] + regular_floors()[:4] + [ALL_WHOLE, W]:
            many = round_length(floor=floor)
            self.assertGreater(many, 0)
            current = floor
            for at in range(1, many + 1):
                current = gathered(current)
                self.assertEqual(move_between(floor, current) is not None, at == many)
            self.assertEqual(judge_move(floor, current)[0], "moved")
            self.assertEqual(round_length(moved(floor, FAR_STEP)), many)
            self.assertEqual(round_length(current), many)

    def side_of(self, one, other):
        return all_sided(one, other)[0].side

    def test_known_rounds(self):
        self.assertEqual(round_length(ALL_WHOLE), 2)
        self.assertEqual(round_length(Floor((7, -3, 1), (0, 2, 1), (1, 1, -1, 1, -1))), 2)
        # -g is 2 for keys that are multiples of (3 - g) / 5, as 5 divides (3 - g)(2 + g).
        self.assertEqual(round_length(Floor((3, -1, 5), (3, -1, 5))), 4)
        # A regular floor can come round by an odd number of gatherings, one at the edge cannot.
        self.assertEqual(round_length(Floor((8, -13, 11), (7, 1, 11))), 5)
        self.assertEqual(round_length(W), 6)
        self.assertEqual(plus((3, -1, 5), (2, 1, 5)), (1, 0, 1))


if __name__ == "__main__":
    unittest.main()
