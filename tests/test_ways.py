"""Part 4: steps and shortest ways."""

import inspect
import unittest

from nevertwice.corners import point_by
from nevertwice.errors import BadCorner, TooMany
from nevertwice.fivesheaves import plain, row_at, tile_of
from nevertwice.floors import has_corner, has_edge, home_of
from nevertwice.tiles import round_about, star_of
from nevertwice.ways import a_way, corners_between, parting_lines, steps_between, way_holds
from tests.patch_samples import FAR_STEP, added, far_floor
from tests.samples import (ALL_WHOLE, E, W, check_error, edge_floors, long_floors, odd_values, regular_floors,
                           spoiled)

FLOORS = regular_floors() + edge_floors() + long_floors()
HOME = (0, 0, 1, 0, 1)


def distances(floor, corner, reach):
    """How many edges lead to each corner within reach, by walking along all edges."""
    found = {corner: 0}
    last = [corner]
    for steps in range(1, reach + 1):
        further = []
        for row in last:
            for j, by in star_of(floor, row):
                beside = row[:j] + (row[j] + by,) + row[j + 1:]
                if beside not in found:
                    found[beside] = steps
                    further.append(beside)
        last = further
    return found


def line_of(one, other):
    """The line that an edge goes over."""
    j = [at for at in range(5) if one[at] != other[at]][0]
    return (j, min(one[j], other[j]))


def far_corner(floor, m, n):
    return tile_of(floor, (0, m), (1, n))[0]


class Steps(unittest.TestCase):
    def test_examples(self):
        one, other = (0, 0, 1, 0, 0), (0, 1, 1, 0, 1)
        self.assertEqual(steps_between(E, one, other), 2)
        self.assertEqual(parting_lines(E, one, other), ((1, 0), (4, 0)))
        corners = tuple(sorted([one, other, (0, 1, 1, 0, 0), (0, 0, 1, 0, 1)]))
        self.assertEqual(corners_between(E, one, other), corners)

    def test_steps_are_the_least_number_of_edges(self):
        for floor in FLOORS:
            home = home_of(floor)
            for corner, steps in distances(floor, home, 6).items():
                self.assertEqual(steps_between(floor, home, corner), steps)
                self.assertEqual(steps_between(other=home, one=corner, floor=floor), steps)

    def test_parting_lines(self):
        for floor in FLOORS[::2]:
            home = home_of(floor)
            for corner in round_about(floor, home, 5)[::3]:
                lines = parting_lines(floor=floor, one=corner, other=home)
                right = []
                for j in range(5):
                    for m in range(-9, 10):
                        if m >= min(home[j], corner[j]) and m < max(home[j], corner[j]):
                            right.append((j, m))
                steps = steps_between(floor, home, corner)
                low = min([0] + list(home + corner))
                if low > -9 and max(home + corner) < 9:
                    self.assertEqual(lines, tuple(right))
                self.assertEqual(len(lines), steps)
                self.assertEqual(parting_lines(floor, home, corner, most=steps), lines)
                if steps:
                    check_error(self, TooMany, {"most": steps - 1}, parting_lines, floor, home, corner, most=steps - 1)

    def test_lines_lie_between_the_regions(self):
        # The points of two regions lie on both sides of exactly those lines that part their rows.
        sheaves = plain(E)
        points = [point_by((x, 0, 7), (y, 0, 11)) for x, y in ((3, 5), (-40, 31), (52, 17), (-19, -60))]
        for point in points:
            for against in points:
                one, other = row_at(sheaves, point), row_at(sheaves, against)
                lines = parting_lines(E, one, other)
                for j in range(5):
                    numbers = [m for direction, m in lines if direction == j]
                    self.assertEqual(numbers, list(range(min(one[j], other[j]), max(one[j], other[j]))))


class Ways(unittest.TestCase):
    def check_way(self, floor, one, other, way):
        self.assertEqual((way[0], way[-1]), (one, other))
        self.assertEqual(len(way), steps_between(floor, one, other) + 1)
        for corner, beside in zip(way, way[1:]):
            self.assertEqual(sum([abs(a - b) for a, b in zip(corner, beside)]), 1)
            j, _ = line_of(corner, beside)
            self.assertTrue(has_edge(floor, (min(corner, beside), j)))
        lines = sorted([line_of(corner, beside) for corner, beside in zip(way, way[1:])])
        self.assertEqual(tuple(lines), parting_lines(floor, one, other, most=len(way)))
        self.assertIs(way_holds(floor, one, other, way), True)

    def test_ways(self):
        for floor in FLOORS:
            home = home_of(floor)
            for corner in round_about(floor, home, 5)[::4]:
                self.check_way(floor, home, corner, a_way(floor, home, corner))
                self.check_way(floor, corner, home, a_way(other=home, one=corner, floor=floor))
            self.assertEqual(a_way(floor, home, home), (home,))
            self.assertEqual(a_way(floor, home, home, most=1), (home,))
            self.assertEqual(parting_lines(floor, home, home, most=0), ())

    def test_long_ways(self):
        for floor in FLOORS:
            home = home_of(floor)
            for m, n in ((50, 40), (-60, 41), (3, -90)):
                corner = far_corner(floor, m, n)
                steps = steps_between(floor, home, corner)
                self.assertTrue(100 < steps <= 400)
                self.check_way(floor, home, corner, a_way(floor, home, corner))

    def test_great_numbers(self):
        for floor in FLOORS[::3]:
            moved = far_floor(floor)
            home, corner = added(home_of(floor), FAR_STEP), added(far_corner(floor, 60, -50), FAR_STEP)
            self.check_way(moved, home, corner, a_way(moved, home, corner))
            near = added(far_corner(floor, 3, -2), FAR_STEP)
            right = [added(row, FAR_STEP) for row in corners_between(floor, home_of(floor), far_corner(floor, 3, -2))]
            self.assertEqual(list(corners_between(moved, home, near)), right)
            far = far_corner(moved, 0, 5)
            steps = steps_between(moved, home, far)
            self.assertEqual(steps, sum([abs(a - b) for a, b in zip(home, far)]))
            self.assertTrue(steps > 10 ** 59)
            for most in (0, 400, 10 ** 40):
                check_error(self, TooMany, {"most": most}, parting_lines, moved, home, far, most=most)
                check_error(self, TooMany, {"most": most}, a_way, moved, home, far, most=most)
                check_error(self, TooMany, {"most": most}, corners_between, moved, home, far, most=most)
            check_error(self, TooMany, {"most": 400}, parting_lines, moved, home, far)
            check_error(self, TooMany, {"most": 401}, a_way, moved, home, far)
            check_error(self, TooMany, {"most": 400}, corners_between, moved, home, far)

    def test_how_many_are_allowed(self):
        for floor in (E, W, ALL_WHOLE):
            home = home_of(floor)
            seen = []
            for m in range(100, 200):
                corner = far_corner(floor, m, m // 7)
                steps = steps_between(floor, home, corner)
                seen.append(steps)
                if steps <= 400:
                    self.assertEqual(len(parting_lines(floor, home, corner)), steps)
                    self.assertEqual(len(a_way(floor, home, corner)), steps + 1)
                else:
                    check_error(self, TooMany, {"most": 400}, parting_lines, floor, home, corner)
                    check_error(self, TooMany, {"most": 401}, a_way, floor, home, corner)
                if steps < 460:
                    self.assertEqual(len(a_way(floor, home, corner, most=steps + 1)), steps + 1)
                    check_error(self, TooMany, {"most": steps}, a_way, floor, home, corner, most=steps)
            self.assertTrue(min(seen) < 400 < max(seen))
        # One step more than the ways of 401 corners have.
        way = a_way(E, HOME, far_corner(E, 400, 400), most=10 ** 6)
        self.assertEqual(len(a_way(E, HOME, way[400])), 401)
        self.assertEqual(len(parting_lines(E, HOME, way[400])), 400)
        check_error(self, TooMany, {"most": 401}, a_way, E, HOME, way[401])
        check_error(self, TooMany, {"most": 400}, parting_lines, E, HOME, way[401])

    def test_most_by_name_only(self):
        for function, most in ((parting_lines, 400), (a_way, 401), (corners_between, 400)):
            self.assertEqual(inspect.signature(function).parameters["most"].default, most)
            with self.assertRaises(TypeError):
                function(E, HOME, HOME, 400)

    def test_right_and_wrong_ways(self):
        for floor in (E, W, ALL_WHOLE):
            home = home_of(floor)
            for corner in round_about(floor, home, 3):
                if steps_between(floor, home, corner) != 3:
                    continue
                ways = [(home,)]
                for _ in range(3):
                    ways = [way + (row,) for way in ways for row in distances(floor, way[-1], 1) if row != way[-1]]
                right = [way for way in ways if way[-1] == corner]
                self.assertIn(a_way(floor, home, corner), right)
                for way in ways:
                    self.assertIs(way_holds(thing=way, other=corner, one=home, floor=floor), way in right)
                for way in right:
                    self.assertIs(way_holds(floor, corner, home, way[::-1]), True)
                    self.assertIs(way_holds(floor, corner, home, way), False)
                    self.assertIs(way_holds(floor, home, corner, way[:3] + (corner, corner)), False)

    def test_no_corners_of_the_floor(self):
        one, other = (0, 0, 1, 0, 0), (0, 1, 1, 0, 1)
        self.assertIs(way_holds(E, one, other, (one, (0, 1, 1, 0, 0), other)), True)
        self.assertIs(way_holds(E, one, other, (one, (0, 0, 1, 0, 1), other)), True)
        far = far_corner(E, 2, 3)
        way = a_way(E, HOME, far)
        for at in range(1, len(way) - 1):
            # The other row between the two neighbours, if it is no corner of the floor.
            row = tuple([a + c - b for a, b, c in zip(way[at - 1], way[at], way[at + 1])])
            changed = way[:at] + (row,) + way[at + 1:]
            self.assertIs(way_holds(E, HOME, far, changed), has_corner(E, row))

    def test_papers_of_any_value(self):
        for floor, one, other in ((E, (0, 0, 1, 0, 0), (0, 1, 1, 0, 1)), (W, home_of(W), home_of(W))):
            way = a_way(floor, one, other)
            for thing in odd_values() + spoiled(way) + [way[::-1] + (one,), way * 700, ((True,) * 5,) * len(way)]:
                self.assertIs(way_holds(floor, one, other, thing), False)


class Between(unittest.TestCase):
    def test_corners_between(self):
        for floor in FLOORS[::2]:
            home = home_of(floor)
            near = distances(floor, home, 7)
            for corner in [row for row in sorted(near) if near[row] <= 5][::5]:
                back = distances(floor, corner, 7)
                right = [row for row in near if row in back and near[row] + back[row] == near[corner]]
                found = corners_between(floor=floor, one=home, other=corner)
                self.assertEqual(found, tuple(sorted(right)))
                self.assertEqual(found, corners_between(floor, corner, home))
                self.assertEqual(found, corners_between(floor, home, corner, most=len(right)))
                for most in (0, len(right) // 2, len(right) - 1):
                    check_error(self, TooMany, {"most": most}, corners_between, floor, home, corner, most=most)

    def test_many_corners(self):
        for floor in (E, W, ALL_WHOLE):
            home = home_of(floor)
            corner = far_corner(floor, 9, 3)
            steps = steps_between(floor, home, corner)
            self.assertTrue(20 <= steps <= 40)
            found = corners_between(floor, home, corner, most=10 ** 6)
            for row in found:
                there = steps_between(floor, home, row) + steps_between(floor, row, corner)
                self.assertEqual(there, steps)
            self.assertTrue(set(a_way(floor, home, corner)) <= set(found))
            in_box = [row for row in round_about(floor, home, steps) if all(
                [min(a, c) <= b <= max(a, c) for a, b, c in zip(home, row, corner)])]
            self.assertEqual(found, tuple(in_box))


class WrongCorners(unittest.TestCase):
    def test_wrong_corners(self):
        for floor in (E, W):
            home = home_of(floor)
            for thing in odd_values() + spoiled(home) + [(1, 0, 0, 0, 0), (0, 0, 0, 0, 0), added(home, FAR_STEP), 5]:
                told = {"thing": thing}
                for function in (steps_between, parting_lines, a_way, corners_between):
                    check_error(self, BadCorner, told, function, floor, thing, "x")
                    check_error(self, BadCorner, told, function, floor, home, thing)
                    check_error(self, BadCorner, told, function, other=None, one=thing, floor=floor)
                for function in (parting_lines, a_way, corners_between):
                    check_error(self, BadCorner, told, function, floor, home, thing, most=0)
                check_error(self, BadCorner, told, way_holds, floor, thing, "x", ())
                check_error(self, BadCorner, told, way_holds, floor, home, thing, ())


if __name__ == "__main__":
    unittest.main()
