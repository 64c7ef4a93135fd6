"""Part 3: floors, their keys, sides and windows."""

import itertools
import unittest

from nevertwice.corners import neighbour, shadow_of
from nevertwice.errors import BadCorner, BadDirection, BadNumber, BadSide, BadText
from nevertwice.fivesheaves import Sheaves
from nevertwice.floors import (Floor, has_corner, has_edge, has_tile, home_of, is_below_bound, rest_of, sides,
                               whole_keys)
from nevertwice.golden import is_below, is_whole, minus, plus, reduced, times
from nevertwice.tiles import opposite_floor, round_about
from tests.samples import (ALL_WHOLE, E, W, all_sided, check_error, edge_floors, nearly, odd_integers, odd_values,
                           regular_floors, spoiled)

ZEROS = (0, 0, 0, 0, 0)
FLOORS = regular_floors() + edge_floors()
LONG = 10 ** 119


def window_says(floor, corner):
    """The windows, by the rests themselves; only for regular floors."""
    level = sum(corner)
    for r in range(5):
        rest = rest_of(floor, corner, r)
        bound = {1: (1, 0, 1), 2: (1, -1, 1), 3: (2, 0, 1), 4: (2, -1, 1)}[level]
        if not (is_below(rest, bound) if level in (1, 3) else is_below(bound, rest)):
            return False
    return True


def near_rows(low, high):
    return [row for row in itertools.product(range(low, high), repeat=5) if 1 <= sum(row) <= 4]


class Keys(unittest.TestCase):
    def test_example(self):
        self.assertEqual(E.all_keys, ((1, 0, 3), (1, 0, 3), (-1, -1, 3), (0, 2, 3), (-1, -1, 3)))
        self.assertEqual(whole_keys(E), ())
        self.assertEqual(str(E), "floor 1+0g/3 1+0g/3")
        self.assertEqual(E.side, ZEROS)

    def test_rules(self):
        for floor in FLOORS:
            keys = floor.all_keys
            total = (0, 0, 1)
            for r in range(5):
                self.assertEqual(reduced(keys[r]), keys[r])
                self.assertEqual(plus(keys[r - 1], keys[(r + 1) % 5]), times((0, -1, 1), keys[r]))
                self.assertEqual(plus(keys[r - 2], keys[(r + 2) % 5]), times((-1, 1, 1), keys[r]))
                total = plus(total, keys[r])
            self.assertEqual(total, (0, 0, 1))
            self.assertEqual(whole_keys(floor=floor), tuple([r for r in range(5) if is_whole(keys[r])]))
            self.assertIn(len(whole_keys(floor)), (0, 1, 5))
            again = Floor(other=(keys[1][0] * 3, keys[1][1] * 3, keys[1][2] * 3), one=keys[0], side=floor.side)
            self.assertEqual(again.all_keys, keys)

    def test_wrong_numbers(self):
        for thing in odd_values() + spoiled((1, 0, 1)) + [(1, 0, 0), 3]:
            told = {"thing": thing}
            check_error(self, BadNumber, told, Floor, thing, "x", "y")
            check_error(self, BadNumber, told, Floor, (1, 0, 3), thing, "y")
            check_error(self, BadNumber, told, Floor, side=ZEROS, other=(1, 1, 0), one=thing)
            check_error(self, BadNumber, told, sides, thing, "x")
            check_error(self, BadNumber, told, sides, other=thing, one=(1, 0, 3))


class Sides(unittest.TestCase):
    def test_all_sides(self):
        self.assertEqual(sides((0, 0, 1), (1, 0, 2)), ((-1, 0, 0, 0, 0), (1, 0, 0, 0, 0)))
        self.assertEqual(sides(one=(1, 0, 3), other=(1, 0, 3)), (ZEROS,))
        right = []
        for q in range(5):
            first = (1, -1, 1, 1, -1)
            turned = tuple([first[(j - q) % 5] for j in range(5)])
            right += [turned, tuple([-part for part in turned])]
        self.assertEqual(sides((3, -2, 1), (4, 10, 2)), tuple(sorted(right)))
        for floor in edge_floors():
            found = sides(floor.all_keys[0], floor.all_keys[1])
            self.assertEqual(list(found), sorted(found))
            self.assertIn(floor.side, found)
            if len(whole_keys(floor)) == 1:
                r = whole_keys(floor)[0]
                self.assertEqual(found, (ZEROS[:r] + (-1,) + ZEROS[r + 1:], ZEROS[:r] + (1,) + ZEROS[r + 1:]))

    def test_wrong_sides(self):
        cases = [((1, 0, 3), (1, 0, 3)), ((0, 0, 1), (1, 0, 2)), ((0, 0, 1), (0, 0, 1))]
        for one, other in cases:
            right = sides(one, other)
            wrong = [row for row in itertools.product((-1, 0, 1), repeat=5) if row not in right]
            for thing in wrong + odd_values() + spoiled(right[0]) + spoiled(right[-1]) + [(2, 0, 0, 0, 0), 0]:
                check_error(self, BadSide, {"thing": thing}, Floor, one, other, thing)
                check_error(self, BadSide, {"thing": thing}, Floor, one=one, other=other, side=thing)
        check_error(self, BadSide, {"thing": ZEROS}, Floor, (0, 0, 1), (1, 0, 2))

    def test_equal_floors(self):
        self.assertTrue(E == Floor((2, 0, 6), (3, 0, 9), ZEROS))
        self.assertFalse(E != Floor((2, 0, 6), (3, 0, 9)))
        self.assertFalse(E == Floor((1, 0, 3), (1, 0, 4)))
        self.assertTrue(W != Floor((0, 0, 1), (1, 0, 2), (-1, 0, 0, 0, 0)))
        for thing in odd_values() + [Sheaves(((0, 0, 1),) * 5), (E.all_keys, E.side)]:
            self.assertIs(W == thing, False)
            self.assertIs(W != thing, True)
            self.assertIs(thing == W, False)


class Texts(unittest.TestCase):
    def test_there_and_back(self):
        for floor in FLOORS:
            self.assertEqual(Floor.read(str(floor)), floor)
            self.assertEqual(Floor.read(text=str(floor)).side, floor.side)
        self.assertEqual(str(ALL_WHOLE), "floor 0+0g 0+0g +-++-")
        self.assertEqual(str(W), "floor 0+0g 1+0g/2 +0000")
        long = Floor((10 ** 9000, 1, 3), (1, -10 ** 8000, 7))
        self.assertEqual(str(long), "floor 1" + "0" * 9000 + "+1g/3 1-1" + "0" * 8000 + "g/7")
        self.assertEqual(Floor.read(str(long)), long)

    def test_wrong_texts(self):
        for thing in odd_values():
            line = 1 if isinstance(thing, str) else 0
            if thing != "floor 1+0g/3 1+0g/3":
                check_error(self, BadText, {"line": line}, Floor.read, thing)
                check_error(self, BadText, {"line": line}, Floor.read, text=thing)
        wrong = ["floor", "floor ", "floor 1+0g/3", "floor 1+0g/3 1+0g/3 ", " floor 1+0g/3 1+0g/3",
                 "floor 1+0g/3 2+0g/6",
                 "floor  1+0g/3 1+0g/3", "Floor 1+0g/3 1+0g/3", "floor 1+0g/3 1+0g/3\n", "floor 1+0g/3 1+0g/3 00000",
                 "floor 1+0g/3\n1+0g/3", "1+0g/3 1+0g/3", "floor 0+0g 0+0g", "floor 0+0g 0+0g 00000",
                 "floor 0+0g 0+0g +-++", "floor 0+0g 0+0g +-++-0", "floor 0+0g 0+0g +++++", "floor 0+0g 0+0g +-++- ",
                 "floor 0+0g 1+0g/2", "floor 0+0g 1+0g/2 -", "floor 0+0g 1+0g/2 x0000", "floor 0+0g 1+0g/2 0+000",
                 "floor 0+0g 1+0g/2 +0000 +0000", "floor 1+0g/3 1+0g/0", "tile 1+0g/3 1+0g/3", "floor 1/3 1/3",
                 "floor 0+0g 1+0g/2 +0000\nfloor", "floor 0+0g 1+0g/2 1-10000"]
        for text in wrong:
            check_error(self, BadText, {"line": 1}, Floor.read, text)


class Windows(unittest.TestCase):
    def test_examples(self):
        corner = (0, 0, 1, 0, 1)
        self.assertEqual([rest_of(E, corner, r) for r in range(5)],
                         [(2, 0, 3), (2, 0, 3), (4, -2, 3), (6, -2, 3), (4, -2, 3)])
        self.assertIs(has_corner(E, corner), True)
        self.assertIs(has_corner(ALL_WHOLE, (0, 0, 0, 0, 1)), True)
        self.assertIs(is_below_bound(ALL_WHOLE, (0, 0, 0, 0, 1), 1, (0, 0, 1)), False)
        self.assertIs(is_below_bound(ALL_WHOLE, (0, 0, 0, 0, 1), 0, (3, 0, 3)), True)
        self.assertIs(has_tile(E, ((0, 0, 1, 0, 0), 1, 4)), True)
        self.assertIs(has_corner(E, (0, 0, 0, 1, 0)), False)

    def test_rests_and_bounds(self):
        bounds = [(a, b, 1) for a in (-1, 0, 1, 2) for b in (-1, 0, 1)]
        for floor in FLOORS:
            corner = home_of(floor)
            for r in range(5):
                rest = minus(shadow_of(corner)[r], floor.all_keys[r])
                self.assertEqual(rest_of(direction=r, corner=corner, floor=floor), rest)
                for bound in bounds + [rest] * is_whole(rest):
                    right = floor.side[r] == 1 if rest == bound else is_below(rest, bound)
                    self.assertIs(is_below_bound(floor, corner, r, bound), right)
                    self.assertIs(is_below_bound(bound=(bound[0] * 2, bound[1] * 2, 2), direction=r, corner=corner,
                                                 floor=floor), right)

    def test_corners_by_windows(self):
        rows = near_rows(-1, 3)
        for floor in FLOORS:
            by = nearly(floor)
            self.assertEqual(whole_keys(by), ())
            self.assertEqual([has_corner(floor, row) for row in rows], [window_says(by, row) for row in rows])

    def test_what_is_no_corner(self):
        corner = (0, 0, 1, 0, 1)
        for thing in odd_values() + spoiled(corner) + [ZEROS, (0, 0, 1, 0, 4), 5]:
            self.assertIs(has_corner(E, thing), False)
            self.assertIs(has_corner(floor=W, thing=thing), False)
            self.assertIs(has_edge(E, thing), False)
            self.assertIs(has_tile(E, thing), False)

    def test_edges(self):
        for floor in FLOORS:
            for corner in round_about(floor, home_of(floor), 3):
                for j in range(5):
                    upper = neighbour(corner, j, True)
                    self.assertIs(has_edge(floor, (corner, j)), upper is not None and has_corner(floor, upper))
        edge = ((0, 0, 1, 0, 1), 0)
        self.assertIs(has_edge(floor=E, thing=edge), True)
        self.assertIs(has_edge(E, ((0, 0, 1, 0, 1), 2)), True)
        self.assertIs(has_edge(E, ((0, 0, 1, 0, 0), 3)), False)
        self.assertIs(has_edge(E, ((0, 0, 1, 0, 1), False)), False)
        self.assertIs(has_edge(E, ((0, 0, 1, 0, 1), 5)), False)
        for thing in spoiled(edge):
            self.assertIs(has_edge(E, thing), False)

    def test_what_is_no_tile(self):
        tile = ((0, 0, 1, 0, 0), 1, 4)
        for thing in spoiled(tile) + [((0, 0, 1, 0, 0), 4, 1), ((0, 0, 1, 0, 0), 1, 1), ((0, 0, 1, 0, 0), 1, 9),
                                      ((0, 0, 1, 0, 0), 0, 1), ((0, 0, 1, 0, 0), True, 4)]:
            self.assertIs(has_tile(E, thing), False)
        self.assertIs(has_tile(floor=E, thing=tile), True)

    def test_tiles_by_three_rests(self):
        rows = [row for row in near_rows(-1, 3) if sum(row) <= 2]
        for floor in [E, W, ALL_WHOLE] + regular_floors()[1:3]:
            for row, (r, s) in itertools.product(rows, itertools.combinations(range(5), 2)):
                self.assertIs(has_tile(floor, (row, r, s)), three_rests_say(floor, row, r, s))

    def test_far_away(self):
        step = (10 ** 59, -10 ** 59, 3, 10 ** 58 - 3, -10 ** 58)
        shadow = shadow_of(step)
        for floor in FLOORS:
            moved = Floor(plus(floor.all_keys[0], shadow[0]), plus(floor.all_keys[1], shadow[1]), floor.side)
            for row in near_rows(0, 2):
                far = tuple([part + by for part, by in zip(row, step)])
                self.assertIs(has_corner(moved, far), has_corner(floor, row))
        one, other = (LONG + 1, -LONG + 7, LONG - 3), (5 * LONG, LONG, 7 * LONG + 1)
        floor = Floor(one, other)
        self.assertTrue(has_corner(floor, home_of(floor)))

    def test_wrong_arguments(self):
        corner = (0, 0, 1, 0, 1)
        for thing in odd_values() + spoiled(corner) + [ZEROS]:
            told = {"thing": thing}
            check_error(self, BadCorner, told, rest_of, E, thing, "x")
            check_error(self, BadCorner, told, is_below_bound, E, thing, "x", "y")
            check_error(self, BadCorner, told, is_below_bound, bound=1, direction=9, corner=thing, floor=W)
        for thing in odd_integers() + [-1, 5]:
            told = {"thing": thing}
            check_error(self, BadDirection, told, rest_of, E, corner, thing)
            check_error(self, BadDirection, told, is_below_bound, E, corner, direction=thing, bound="y")
        for thing in odd_values() + spoiled((1, 0, 1)) + [(1, 0, 2), (1, 1, 0), 1]:
            check_error(self, BadNumber, {"thing": thing}, is_below_bound, W, corner, 0, thing)

    def test_homes(self):
        self.assertEqual(home_of(E), (0, 0, 1, 0, 1))
        self.assertEqual(home_of(floor=W), (0, 0, 1, 0, 1))
        self.assertEqual(home_of(Floor((0, 0, 1), (1, 0, 2), (-1, 0, 0, 0, 0))), (0, 0, 1, 0, 0))
        for floor in FLOORS:
            home = home_of(floor)
            self.assertEqual(home[:2], (0, 0))
            self.assertTrue(has_tile(floor, (home, 0, 1)))


def three_rests_say(floor, row, r, s):
    """Whether the three rests of the foot say that this is a tile."""
    if sum(row) == 2:
        top = [1 - part for part in row]
        top[r] -= 1
        top[s] -= 1
        return three_rests_say(opposite_floor(floor), tuple(top), r, s)
    if (s - r) % 5 > 2:
        r, s = s, r
    if (s - r) % 5 == 1:
        are_above = [not is_below_bound(floor, row, at, (0, 0, 1)) for at in (r, s)]
        return all(are_above) and is_below_bound(floor, row, (r + 3) % 5, (1, 0, 1))
    are_below = [is_below_bound(floor, row, at, (1, 0, 1)) for at in (r, s)]
    return all(are_below) and is_below_bound(floor, row, (r + 1) % 5, (0, 0, 1))


class TheTenSides(unittest.TestCase):
    def test_each_side_is_another_floor(self):
        floors = all_sided((0, 0, 1), (0, 0, 1))
        self.assertEqual(len(floors), 10)
        found = []
        for floor in floors:
            corners = round_about(floor, home_of(floor), 4)
            self.assertNotIn(corners, found)
            found.append(corners)


if __name__ == "__main__":
    unittest.main()
