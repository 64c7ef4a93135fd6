"""Part 2: corners, shadows, points, motions."""

import itertools
import random
import unittest

from nevertwice.corners import (both, direction_done, done, is_corner_row, is_motion, is_point, is_row, is_step,
                                level_of, neighbour, point_by, point_of, row_of, shadow_of, square, undone)
from nevertwice.errors import (BadCorner, BadCount, BadDirection, BadMotion, BadNumber, BadPoint, BadRow)
from nevertwice.golden import is_golden, minus, plus, reduced, times
from tests.samples import check_error, odd_integers, odd_values, spoiled

BIG = 10 ** 60 - 1
MOTIONS = [(q, m, o) for q in range(5) for m in (0, 1) for o in (0, 1)]
G = (0, 1, 1)


def some_rows():
    source = random.Random(4)
    rows = [(0, 0, 0, 0, 0), (1, 0, 0, 0, 0), (0, 0, 1, 0, 1), (2, 1, 0, 0, 1), (1, 1, 1, 1, 1), (-1, 2, -3, 4, -1),
            (BIG, -BIG, BIG, -BIG, 3), (-BIG, -BIG, BIG, BIG, 1)]
    for _ in range(40):
        rows.append(tuple([source.randint(-9, 9) for _ in range(5)]))
    return rows


ROWS = some_rows()
CORNERS = [row for row in ROWS if 1 <= sum(row) <= 4] + [(0, 1, 1, 1, 1), (0, 0, 0, 0, 1)]


class Rows(unittest.TestCase):
    def test_kinds(self):
        for row in ROWS:
            self.assertIs(is_row(row), True)
            self.assertIs(is_corner_row(thing=row), sum(row) in (1, 2, 3, 4))
            self.assertIs(is_step(thing=row), sum(row) == 0)
        for total, is_corner, is_a_step in ((-1, False, False), (0, False, True), (1, True, False),
                                            (4, True, False), (5, False, False)):
            row = (3, -7, 0, 4, total)
            self.assertEqual((is_corner_row(row), is_step(row)), (is_corner, is_a_step))
        for thing in odd_values() + spoiled((1, 0, 0, 0, 0)) + spoiled((1, 0, 0, 0, -1)):
            self.assertIs(is_row(thing=thing), False)
            self.assertIs(is_corner_row(thing), False)
            self.assertIs(is_step(thing), False)

    def test_levels(self):
        for corner in CORNERS:
            self.assertEqual(level_of(corner), sum(corner))
        self.assertEqual(level_of(corner=(0, 1, 1, 1, 1)), 4)
        for thing in odd_values() + spoiled((1, 0, 0, 0, 0)) + [(0, 0, 0, 0, 0), (1, 1, 1, 1, 1), 3]:
            check_error(self, BadCorner, {"thing": thing}, level_of, thing)
            check_error(self, BadCorner, {"thing": thing}, level_of, corner=thing)

    def test_neighbours(self):
        self.assertIsNone(neighbour((2, 1, 0, 0, 1), 0, True))
        self.assertIsNone(neighbour((1, 0, 0, 0, 0), 3, False))
        self.assertEqual(neighbour((1, 0, 0, 0, 0), 3, True), (1, 0, 0, 1, 0))
        self.assertEqual(neighbour(up=False, direction=4, corner=(2, 1, 0, 0, 1)), (2, 1, 0, 0, 0))
        for corner in CORNERS:
            for j in range(5):
                for up, by in ((True, 1), (False, -1)):
                    row = list(corner)
                    row[j] += by
                    right = tuple(row) if 1 <= sum(row) <= 4 else None
                    self.assertEqual(neighbour(corner, j, up), right)

    def test_wrong_neighbours(self):
        for thing in odd_values() + spoiled((1, 0, 0, 0, 0)) + [(0, 0, 0, 0, 0)]:
            check_error(self, BadCorner, {"thing": thing}, neighbour, thing, "x", True)
        for thing in odd_integers() + [-1, 5, 10 ** 70]:
            check_error(self, BadDirection, {"thing": thing}, neighbour, (1, 0, 0, 0, 0), thing, True)
            check_error(self, BadDirection, {"thing": thing}, neighbour, corner=(1, 0, 0, 0, 0), direction=thing,
                        up=False)


class Shadows(unittest.TestCase):
    def test_example(self):
        self.assertEqual(shadow_of((1, 0, 0, 0, 0)), ((1, -1, 1), (1, 0, 1), (0, 0, 1), (0, 0, 1), (1, 0, 1)))
        self.assertEqual(row_of((1, -1, 1), (1, 0, 1), 1), (1, 0, 0, 0, 0))

    def test_rules(self):
        for row in ROWS:
            shadow = shadow_of(row=row)
            total = (0, 0, 1)
            for r in range(5):
                right = (row[r - 1] + row[(r + 1) % 5] + row[r], -row[r], 1)
                self.assertEqual(shadow[r], right)
                beside = plus(shadow[r - 1], shadow[(r + 1) % 5])
                self.assertEqual(beside, minus((sum(row), 0, 1), times(G, shadow[r])))
                total = plus(total, shadow[r])
            self.assertEqual(total, (3 * sum(row), -sum(row), 1))

    def test_back(self):
        for row in ROWS:
            shadow = shadow_of(row)
            self.assertEqual(row_of(shadow[0], shadow[1], sum(row)), row)
            one, other = [(a * 6, b * 6, 6) for a, b, _ in shadow[:2]]
            self.assertEqual(row_of(total=sum(row), other=other, one=one), row)
        row = row_of((7, -3, 1), (BIG, 2, 1), -BIG)
        self.assertEqual(shadow_of(row)[:2], ((7, -3, 1), (BIG, 2, 1)))
        self.assertEqual(sum(row), -BIG)

    def test_wrong(self):
        for thing in odd_values() + spoiled((1, 0, 0, 0, 0)) + [4]:
            check_error(self, BadRow, {"thing": thing}, shadow_of, thing)
            check_error(self, BadRow, {"thing": thing}, shadow_of, row=thing)
        for thing in odd_values() + spoiled((1, 0, 1)) + [(1, 0, 2), (0, 1, 3), (2, 3, 2), (1, 1, 0), 1]:
            told = {"thing": thing}
            check_error(self, BadNumber, told, row_of, thing, "x", "y")
            check_error(self, BadNumber, told, row_of, (1, 0, 1), thing, "y")
            check_error(self, BadNumber, told, row_of, total=None, other=thing, one=(2, 0, 2))
        for thing in odd_integers():
            check_error(self, BadCount, {"thing": thing}, row_of, (1, 0, 1), (1, 0, 1), thing)


class Points(unittest.TestCase):
    def test_example(self):
        point = ((1, 0, 1), (-1, 1, 2), (0, -1, 2), (0, -1, 2), (-1, 1, 2))
        self.assertEqual(point_of((1, 0, 0, 0, 0)), point)
        self.assertEqual(square(point, point_of((0, 0, 0, 0, 0))), (1, 0, 1))

    def test_points_of_rows(self):
        for row in ROWS:
            point = point_of(row=row)
            self.assertIs(is_point(point), True)
            for j in range(5):
                beside = row[j - 1] + row[(j + 1) % 5]
                across = row[j - 2] + row[(j + 2) % 5]
                self.assertEqual(point[j], reduced((2 * row[j] - beside, beside - across, 2)))
                self.assertEqual(plus(point[j - 1], point[(j + 1) % 5]), times((-1, 1, 1), point[j]))
            self.assertEqual(point_of(tuple([part + 1 for part in row])), point)
            self.assertEqual(point_by(one=point[0], other=point[1]), point)

    def test_points_by_two_numbers(self):
        long = 10 ** 200 - 3
        for one, other in (((0, 0, 1), (0, 0, 5)), ((2, 4, 6), (1, -1, 7)), ((long, -long, long - 2), (5, long, 3))):
            point = point_by(one, other)
            self.assertEqual(point[:2], (reduced(one), reduced(other)))
            total = (0, 0, 1)
            for j in range(5):
                self.assertEqual(plus(point[j - 1], point[(j + 1) % 5]), times((-1, 1, 1), point[j]))
                self.assertTrue(is_golden(point[j]) and reduced(point[j]) == point[j])
                total = plus(total, point[j])
            self.assertEqual(total, (0, 0, 1))
            unreduced = tuple([(4 * a, 4 * b, 4 * d) for a, b, d in point])
            self.assertIs(is_point(thing=unreduced), True)
            self.assertEqual(square(point, unreduced), (0, 0, 1))

    def test_what_is_no_point(self):
        point = point_of((1, 0, 0, 0, 0))
        for thing in odd_values() + spoiled(point) + [point[1:] + ((9, 9, 9),), 0]:
            self.assertIs(is_point(thing=thing), False)
        for at in range(5):
            for wrong in ((5, 0, 1), (1, 0, 0)):
                self.assertIs(is_point(point[:at] + (wrong,) + point[at + 1:]), False)

    def test_squares(self):
        zero = point_of((0, 0, 0, 0, 0))
        for j in range(5):
            steps = [0, 0, 0, 0, 0]
            steps[j] = -3
            self.assertEqual(square(one=zero, other=point_of(tuple(steps))), (9, 0, 1))
        # The angle between e_0 and e_1 is 72 degrees, so their sum has the square 2 + (g - 1).
        self.assertEqual(square(point_of((1, 1, 0, 0, 0)), zero), (1, 1, 1))
        self.assertEqual(square(point_of((1, 0, 1, 0, 0)), zero), (2, -1, 1))

    def test_wrong(self):
        point = point_of((1, 0, 0, 0, 0))
        for thing in odd_values() + spoiled((1, 0, 0, 0, 0)):
            check_error(self, BadRow, {"thing": thing}, point_of, thing)
        for thing in odd_values() + spoiled((1, 0, 1)) + [(1, 1, 0)]:
            check_error(self, BadNumber, {"thing": thing}, point_by, thing, "x")
            check_error(self, BadNumber, {"thing": thing}, point_by, (1, 0, 1), other=thing)
        for thing in odd_values() + spoiled(point)[:60]:
            check_error(self, BadPoint, {"thing": thing}, square, thing, "x")
            check_error(self, BadPoint, {"thing": thing}, square, point, thing)
            check_error(self, BadPoint, {"thing": thing}, square, other=None, one=thing)


class Motions(unittest.TestCase):
    def test_examples(self):
        self.assertEqual(done((1, 1, 0), (3, 1, 0, 0, 0)), (1, 3, 0, 0, 0))
        self.assertEqual(done((0, 0, 1), (1, 0, 0, 0, 0)), (0, 1, 1, 1, 1))
        self.assertEqual(done((2, 0, 0), (1, 2, 0, -1, 0)), (-1, 0, 1, 2, 0))
        self.assertEqual(direction_done((1, 1, 0), 0), 1)

    def test_kinds(self):
        for motion in MOTIONS:
            self.assertIs(is_motion(thing=motion), True)
            for thing in spoiled(motion):
                self.assertIs(is_motion(thing), False)
        for thing in odd_values():
            self.assertIs(is_motion(thing), False)
        for thing in ((5, 0, 0), (-1, 0, 0), (0, 2, 0), (0, -1, 0), (0, 0, 2), (0, 0, -1), (0, 0, True), 0):
            self.assertIs(is_motion(thing), False)

    def test_neighbours_are_led_along(self):
        for motion, corner, j in itertools.product(MOTIONS, CORNERS, range(5)):
            self.assertTrue(is_corner_row(done(motion=motion, corner=corner)))
            upper = neighbour(corner, j, True)
            if upper is not None:
                led = neighbour(done(motion, corner), direction_done(motion=motion, direction=j), motion[2] == 0)
                self.assertEqual(done(motion, upper), led)

    def test_two_motions_are_one(self):
        for first, second in itertools.product(MOTIONS, MOTIONS):
            one = both(first=first, second=second)
            self.assertIs(is_motion(one), True)
            for corner in CORNERS[:6]:
                self.assertEqual(done(one, corner), done(second, done(first, corner)))
            for j in range(5):
                self.assertEqual(direction_done(one, j), direction_done(second, direction_done(first, j)))
        for motion in MOTIONS:
            self.assertEqual(both(motion, undone(motion=motion)), (0, 0, 0))
            self.assertEqual(both(undone(motion), motion), (0, 0, 0))

    def test_wrong(self):
        corner = (1, 0, 0, 0, 0)
        for thing in odd_values() + spoiled((1, 0, 1)) + [(5, 0, 0)]:
            told = {"thing": thing}
            check_error(self, BadMotion, told, done, thing, "x")
            check_error(self, BadMotion, told, done, corner="x", motion=thing)
            check_error(self, BadMotion, told, direction_done, thing, "x")
            check_error(self, BadMotion, told, both, thing, "x")
            check_error(self, BadMotion, told, both, (0, 1, 0), thing)
            check_error(self, BadMotion, told, both, second=(0, 0, 9), first=thing)
            check_error(self, BadMotion, told, undone, motion=thing)
        for thing in odd_values() + spoiled(corner) + [(0, 0, 0, 0, 0)]:
            check_error(self, BadCorner, {"thing": thing}, done, (0, 1, 0), thing)
        for thing in odd_integers() + [-1, 5]:
            check_error(self, BadDirection, {"thing": thing}, direction_done, (0, 1, 0), thing)


if __name__ == "__main__":
    unittest.main()
