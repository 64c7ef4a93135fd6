"""Part 4: lines, regions, crossings and papers for rows."""

import itertools
import random
import unittest

from nevertwice.corners import point_by, point_of
from nevertwice.errors import (AtTheEdge, BadCorner, BadDirection, BadLine, BadPoint, BadShifts, BadSide,
                               NotAtTheEdge)
from nevertwice.fivesheaves import (Sheaves, edge_line, floor_of, judge_row, lines_at, meeting, moved_lines, plain,
                                    row_at, row_holds, tile_of)
from nevertwice.floors import Floor, has_corner, has_tile, home_of, is_below_bound, rest_of, sides, whole_keys
from nevertwice.golden import (integer_above, is_below, is_whole, minus, plus, power, reduced, times)
from nevertwice.tiles import round_about
from tests.samples import (ALL_WHOLE, E, W, check_error, edge_floors, nearly, odd_integers, odd_values,
                           regular_floors, spoiled)

FLOORS = regular_floors() + edge_floors()
ZERO = (0, 0, 1)
ZEROS = (0, 0, 0, 0, 0)
SHIFTS = ((1, 2, 3), (-4, 1, 5), (2, 0, 7), (0, 3, 2), minus(ZERO, plus(plus((1, 2, 3), (-4, 1, 5)),
                                                                      plus((2, 0, 7), (0, 3, 2)))))
LINES = [(j, m) for j in range(5) for m in range(-3, 4)]
CROSSING = [(one, other) for one in LINES for other in LINES if one[0] != other[0]]


def some_points(many, reach, seed):
    source = random.Random(seed)
    for _ in range(many):
        numbers = [(source.randint(-reach, reach), source.randint(-reach, reach), source.randint(1, 99))
                   for _ in range(2)]
        yield point_by(numbers[0], numbers[1])


class Shifts(unittest.TestCase):
    def test_examples(self):
        self.assertEqual(plain(E).shifts, (ZERO, ZERO, (1, 0, 3), (-2, 0, 3), (1, 0, 3)))
        self.assertEqual(plain(floor=E).all_keys, E.all_keys)

    def test_plain_shifts_and_back(self):
        for floor in FLOORS:
            sheaves = plain(floor)
            t_0, t_1 = floor.all_keys[:2]
            self.assertEqual(sheaves.shifts, (ZERO, ZERO, t_1, minus(minus(ZERO, t_0), t_1), t_0))
            self.assertEqual(sheaves.all_keys, floor.all_keys)
            self.assertEqual(floor_of(sheaves, floor.side), floor)
            self.assertEqual(floor_of(side=floor.side, sheaves=sheaves), floor)
        self.assertEqual(floor_of(plain(E)), E)

    def test_keys_of_shifts(self):
        unreduced = tuple([(a * 4, b * 4, d * 4) for a, b, d in SHIFTS])
        for shifts in (SHIFTS, unreduced):
            sheaves = Sheaves(shifts=shifts)
            self.assertEqual(sheaves.shifts, tuple([reduced(part) for part in SHIFTS]))
            for r in range(5):
                key = plus(plus(SHIFTS[r - 1], SHIFTS[(r + 1) % 5]), times((1, -1, 1), SHIFTS[r]))
                self.assertEqual(sheaves.all_keys[r], key)
                beside = plus(sheaves.all_keys[r - 1], sheaves.all_keys[(r + 1) % 5])
                self.assertEqual(beside, times((0, -1, 1), key))

    def test_equal(self):
        unreduced = tuple([(a * 4, b * 4, d * 4) for a, b, d in SHIFTS])
        self.assertTrue(Sheaves(SHIFTS) == Sheaves(unreduced))
        self.assertFalse(Sheaves(SHIFTS) != Sheaves(unreduced))
        moved = moved_lines(Sheaves(SHIFTS), point_of((1, 0, 0, 0, 0)))
        self.assertTrue(Sheaves(SHIFTS) != moved)
        self.assertEqual(moved.all_keys, Sheaves(SHIFTS).all_keys)
        for thing in odd_values() + [SHIFTS, E]:
            self.assertIs(Sheaves(SHIFTS) == thing, False)
            self.assertIs(Sheaves(SHIFTS) != thing, True)

    def test_wrong_shifts(self):
        wrong = [SHIFTS[:4] + ((1, 0, 1),), SHIFTS[1:], SHIFTS + (ZERO,), list(SHIFTS), (ZERO,) * 4, (ZERO,) * 6,
                 ((0, 0, 0),) * 5, ((1, 0, 1), (-1, 0, 1), ZERO, ZERO, (0, 1, 9)), 0]
        for thing in odd_values() + spoiled(SHIFTS) + wrong:
            check_error(self, BadShifts, {"thing": thing}, Sheaves, thing)
            check_error(self, BadShifts, {"thing": thing}, Sheaves, shifts=thing)

    def test_wrong_sides(self):
        for thing in odd_values() + spoiled(ZEROS) + [(1, 0, 0, 0, 0)]:
            check_error(self, BadSide, {"thing": thing}, floor_of, plain(E), thing)
        check_error(self, BadSide, {"thing": ZEROS}, floor_of, plain(W))
        check_error(self, BadSide, {"thing": ZEROS}, floor_of, sheaves=plain(ALL_WHOLE))


class Rows(unittest.TestCase):
    def test_rows_of_points(self):
        for sheaves in (plain(E), Sheaves(SHIFTS)):
            for point in some_points(40, 60, 1):
                numbers = [plus(height, shift) for height, shift in zip(point, sheaves.shifts)]
                self.assertEqual(row_at(point=point, sheaves=sheaves), tuple([integer_above(n) for n in numbers]))
                right = tuple([(j, n[0]) for j, n in enumerate(numbers) if n[1:] == (0, 1)])
                self.assertEqual(lines_at(point=point, sheaves=sheaves), right)
        self.assertEqual(row_at(plain(E), point_of(ZEROS)), (0, 0, 1, 0, 1))
        self.assertEqual(lines_at(plain(E), point_of(ZEROS)), ((0, 0), (1, 0)))
        # A height that is whole, but no integer, is on no line.
        self.assertEqual(lines_at(plain(E), point_by((0, 1, 1), (1, 0, 2))), ())
        self.assertEqual(lines_at(plain(ALL_WHOLE), point_of(ZEROS)), ((0, 0), (1, 0), (2, 0), (3, 0), (4, 0)))

    def test_rows_are_the_corners(self):
        for floor in regular_floors():
            sheaves = plain(floor)
            for point in some_points(60, 400, 2):
                self.assertTrue(has_corner(floor, row_at(sheaves, point)))
        for shifts in (SHIFTS,):
            floor = floor_of(Sheaves(shifts))
            for point in some_points(60, 400, 3):
                self.assertTrue(has_corner(floor, row_at(Sheaves(shifts), point)))

    def test_moved_lines(self):
        sheaves = Sheaves(SHIFTS)
        move = point_by((3, 1, 4), (-2, 5, 6))
        moved = moved_lines(point=move, sheaves=sheaves)
        for one, other in CROSSING[::23]:
            right = tuple([plus(a, b) for a, b in zip(meeting(sheaves, one, other), move)])
            self.assertEqual(meeting(moved, one, other), right)
        self.assertEqual(moved.shifts, tuple([minus(shift, height) for shift, height in zip(sheaves.shifts, move)]))

    def test_wrong_points(self):
        point = point_of((1, 0, 0, 0, 0))
        wrong = [point[:4] + ((5, 0, 1),), point[1:] + ((7, 0, 1),), ((1, 0, 1),) * 5, ((0, 0, 0),) * 5]
        for thing in odd_values() + spoiled(point)[::3] + wrong:
            told = {"thing": thing}
            for function in (row_at, lines_at, moved_lines):
                check_error(self, BadPoint, told, function, plain(E), thing)
                check_error(self, BadPoint, told, function, sheaves=plain(E), point=thing)


class Meetings(unittest.TestCase):
    def test_examples(self):
        self.assertEqual(meeting(plain(E), (0, 0), (1, 0)), (ZERO,) * 5)
        self.assertEqual(tile_of(E, (0, 0), (1, 0)), ((0, 0, 1, 0, 1), 0, 1))
        right = ((0, -1, 3), ZERO, (0, 1, 3), (1, 0, 3), (-1, 0, 3))
        self.assertEqual(meeting(plain(E), (1, 0), (4, 0)), right)
        self.assertEqual(tile_of(E, (1, 0), (4, 0)), ((0, 0, 1, 0, 0), 1, 4))

    def test_meetings(self):
        for sheaves in (plain(E), plain(W), Sheaves(SHIFTS)):
            for one, other in CROSSING:
                point = meeting(sheaves, one, other)
                for j in range(5):
                    beside = plus(point[j - 1], point[(j + 1) % 5])
                    self.assertEqual(beside, times((-1, 1, 1), point[j]))
                for j, m in (one, other):
                    self.assertEqual(plus(point[j], sheaves.shifts[j]), (m, 0, 1))
                    self.assertIn((j, m), lines_at(sheaves, point))
        self.assertEqual(meeting(other=(1, 0), one=(4, 0), sheaves=plain(E)), meeting(plain(E), (1, 0), (4, 0)))

    def test_tiles_of_lines(self):
        for floor in FLOORS:
            by = nearly(floor)
            for one, other in CROSSING[::3]:
                tile = tile_of(floor, one, other)
                self.assertEqual(tile[1:], (min(one[0], other[0]), max(one[0], other[0])))
                self.assertEqual((tile[0][one[0]], tile[0][other[0]]), (one[1], other[1]))
                self.assertTrue(has_tile(floor, tile))
                self.assertEqual(tile, tile_of(by, one, other))
                self.assertEqual(tile, tile_of(floor=floor, one=other, other=one))

    def test_one_tile_only(self):
        for floor in (E, W, ALL_WHOLE):
            for r, s in itertools.combinations(range(5), 2):
                found = []
                for row in itertools.product(range(-2, 4), repeat=3):
                    foot = list(row)
                    foot.insert(r, 0)
                    foot.insert(s, 0)
                    if has_tile(floor, (tuple(foot), r, s)):
                        found.append((tuple(foot), r, s))
                self.assertEqual(found, [tile_of(floor, (r, 0), (s, 0))])

    def test_great_numbers(self):
        for floor in FLOORS:
            for one, other in itertools.permutations([(0, 10 ** 60 - 1), (1, -10 ** 59), (2, 3), (3, 10 ** 59 + 1),
                                                      (4, -10 ** 60 + 7)], 2):
                tile = tile_of(floor, one, other)
                self.assertTrue(has_tile(floor, tile))
                self.assertEqual((tile[0][one[0]], tile[0][other[0]]), (one[1], other[1]))

    def test_wrong_lines(self):
        line = (2, -7)
        for thing in odd_values() + spoiled(line) + [(5, 0), (-1, 0), (0, 1, 2), [0, 1], (0, True), (False, 1), 3]:
            told = {"thing": thing}
            for function, whole in ((meeting, plain(E)), (tile_of, W)):
                check_error(self, BadLine, told, function, whole, thing, "x")
                check_error(self, BadLine, told, function, whole, line, thing)
                check_error(self, BadLine, told, function, whole, other=None, one=thing)
        for other in ((2, -7), (2, 0), (2, 10 ** 60)):
            check_error(self, BadLine, {"thing": other}, meeting, plain(E), line, other)
            check_error(self, BadLine, {"thing": other}, tile_of, other=other, one=line, floor=E)

    def test_edge_lines(self):
        for floor in FLOORS:
            for r in range(5):
                if r not in whole_keys(floor):
                    check_error(self, NotAtTheEdge, {}, edge_line, floor, r)
                    continue
                a, b, _ = floor.all_keys[r]
                self.assertEqual(edge_line(direction=r, floor=floor), -b)
                for m in range(-3, 4):
                    for three in ([((r - 1) % 5, m), (r, -b), ((r + 1) % 5, a + b - m)],
                                  [((r - 2) % 5, m), (r, -b), ((r + 2) % 5, -a - m)]):
                        point = meeting(plain(floor), three[0], three[2])
                        self.assertTrue(set(three) <= set(lines_at(plain(floor), point)))
        self.assertEqual(edge_line(W, 0), 0)
        for thing in odd_integers() + [-1, 5]:
            check_error(self, BadDirection, {"thing": thing}, edge_line, E, thing)
            check_error(self, BadDirection, {"thing": thing}, edge_line, W, direction=thing)


class Papers(unittest.TestCase):
    def test_examples(self):
        corner = (0, 0, 1, 0, 1)
        self.assertIs(row_holds(E, corner, ("met", (ZERO,) * 5)), True)
        self.assertEqual(judge_row(E, (1, 0, 0, 0, 0)), ("out", 4))
        self.assertEqual([rest_of(E, (1, 0, 0, 0, 0), r) for r in range(5)],
                         [(2, -3, 3), (2, 0, 3), (1, 1, 3), (0, -2, 3), (4, 1, 3)])

    def test_papers_are_right(self):
        for floor in regular_floors():
            for row in itertools.product((-1, 0, 1), repeat=5):
                if not 1 <= sum(row) <= 4:
                    continue
                paper = judge_row(corner=row, floor=floor)
                self.assertIs(row_holds(floor, row, paper), True)
                self.assertEqual(paper[0], "met" if has_corner(floor, row) else "out")
                for r in range(5):
                    bound = {1: (1, 0, 1), 2: (1, -1, 1), 3: (2, 0, 1), 4: (2, -1, 1)}[sum(row)]
                    is_out = is_below_bound(floor, row, r, bound) != (sum(row) in (1, 3))
                    self.assertIs(row_holds(thing=("out", r), corner=row, floor=floor), is_out)
                if paper[0] == "met":
                    self.assertEqual(row_at(plain(floor), paper[1]), row)
            for row in round_about(floor, home_of(floor), 5):
                self.assertIs(row_holds(floor, row, judge_row(floor, row)), True)

    def test_wrong_papers(self):
        corner = (0, 0, 1, 0, 1)
        point = judge_row(E, corner)[1]
        unreduced = tuple([(a * 2, b * 2, d * 2) for a, b, d in point])
        self.assertIs(row_holds(E, corner, ("met", unreduced)), True)
        other = judge_row(E, (0, 0, 1, 0, 0))[1]
        wrong = [("met", other), ("out", 0), ("met", list(point)), ["met", point], ("met", point, 1), ("out", point),
                 ("met",), ("in", point), (E, point), ([], {}), ("out", True), point, "met", 0]
        for thing in odd_values() + wrong + spoiled(("met", point))[::2]:
            self.assertIs(row_holds(E, corner, thing), False)
        for thing in [("in", 4), ("", 4), (E, 4), (None, 4), ("out", True), ("out", 3), ("out", 5), ("out", -1),
                      ("out", "4"), ("out", (4,)), ("met", 4)]:
            self.assertIs(row_holds(E, (1, 0, 0, 0, 0), thing), False)
        self.assertIs(row_holds(E, (1, 0, 0, 0, 0), ("out", 4)), True)

    def test_errors(self):
        for floor in edge_floors():
            told = {"directions": whole_keys(floor)}
            check_error(self, AtTheEdge, told, judge_row, floor, "x")
            check_error(self, AtTheEdge, told, row_holds, floor, corner="x", thing="y")
        for thing in odd_values() + spoiled((1, 0, 0, 0, 0)) + [ZEROS, 3]:
            check_error(self, BadCorner, {"thing": thing}, judge_row, E, thing)
            check_error(self, BadCorner, {"thing": thing}, row_holds, E, thing, ("out", 4))
            check_error(self, BadCorner, {"thing": thing}, judge_row, corner=thing, floor=E)

    def test_far_away(self):
        floor = Floor(times((1, 0, 3), power(-200)), (10 ** 119 + 1, 1, 10 ** 119 - 7))
        for one, other in (((0, 10 ** 59), (3, -10 ** 60 + 1)), ((4, 10 ** 59), (3, 10 ** 58))):
            foot = tile_of(floor, one, other)[0]
            paper = judge_row(floor, foot)
            self.assertEqual(row_at(plain(floor), paper[1]), foot)
        self.assertEqual(sides(floor.all_keys[0], floor.all_keys[1]), (ZEROS,))
        self.assertTrue(is_below(floor.all_keys[0], (1, 0, 10 ** 20)) and not is_whole(floor.all_keys[0]))


if __name__ == "__main__":
    unittest.main()
