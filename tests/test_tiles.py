"""Part 3: tiles, edges, marks and stars."""

import itertools
import unittest

from nevertwice.corners import neighbour, shadow_of
from nevertwice.errors import BadCorner, BadCount, BadEdge, BadTile, TooMany
from nevertwice.floors import Floor, has_corner, has_edge, has_tile, home_of, is_below_bound, whole_keys
from nevertwice.golden import plus
from nevertwice.tiles import (corners_of, does_fit, edges_of, is_left, is_low, is_thick, is_tile_row, mark_of,
                              marks_of, opposite_floor, round_about, star_of, tiles_at)
from tests.samples import (ALL_WHOLE, E, W, check_error, edge_floors, nearly, odd_integers, odd_values,
                           regular_floors, spoiled)

FLOORS = regular_floors() + edge_floors()
HOME = (0, 0, 1, 0, 1)
THIN_LOW = ((0, 0, 1, 0, 0), 1, 4)
PAIRS = list(itertools.combinations(range(5), 2))


def some_tile_rows():
    feet = [row for row in itertools.product((-1, 0, 1), repeat=5) if sum(row) in (1, 2)][::7]
    return [(foot, r, s) for foot in feet for r, s in PAIRS]


class Around(unittest.TestCase):
    def test_examples(self):
        self.assertEqual(star_of(E, HOME), ((0, 1), (1, 1), (2, -1), (2, 1), (3, 1), (4, -1), (4, 1)))
        self.assertEqual(len(tiles_at(E, HOME)), 7)
        self.assertIn((HOME, 0, 1), tiles_at(E, HOME))
        self.assertEqual([len(round_about(E, HOME, steps)) for steps in range(4)], [1, 8, 17, 31])
        check_error(self, TooMany, {"most": 7}, round_about, E, HOME, 1, most=7)
        self.assertEqual(len(round_about(E, HOME, 1, most=8)), 8)

    def test_stars(self):
        for floor in FLOORS:
            by = nearly(floor)
            for corner in round_about(floor, home_of(floor), 4):
                star = star_of(floor=floor, corner=corner)
                right = []
                for j in range(5):
                    for way, up in ((-1, False), (1, True)):
                        beside = neighbour(corner, j, up)
                        if beside is not None and has_corner(floor, beside):
                            right.append((j, way))
                self.assertEqual(star, tuple(right))
                self.assertEqual(star, star_of(by, corner))
                self.assertIn(len(star), (3, 4, 5) if sum(corner) in (1, 4) else (3, 5, 6, 7))
                if sum(corner) == 1:
                    for j in range(5):
                        self.assertIs((j, 1) in star, not is_below_bound(floor, corner, j, (0, 0, 1)))

    def test_all_stars_come(self):
        found = {1: {}, 2: {}, 3: {}, 4: {}}
        for corner in round_about(E, HOME, 60, most=20000):
            found[sum(corner)][star_of(E, corner)] = True
        self.assertEqual([len(found[level]) for level in (1, 2, 3, 4)], [11, 21, 21, 11])

    def test_tiles_at(self):
        for floor in FLOORS[::3]:
            for corner in round_about(floor, home_of(floor), 3):
                right = []
                for (r, s), (low_r, low_s) in itertools.product(PAIRS, itertools.product((0, 1), repeat=2)):
                    foot = list(corner)
                    foot[r] -= low_r
                    foot[s] -= low_s
                    if has_tile(floor, (tuple(foot), r, s)):
                        right.append((tuple(foot), r, s))
                self.assertEqual(tiles_at(corner=corner, floor=floor), tuple(sorted(right)))
                self.assertEqual(len(right), len(star_of(floor, corner)))
                for tile in right:
                    self.assertTrue(is_tile_row(tile) and corner in corners_of(tile))

    def test_round_about(self):
        for floor in FLOORS[::2]:
            home = home_of(floor)
            found = {home}
            for steps in range(5):
                self.assertEqual(round_about(steps=steps, corner=home, floor=floor), tuple(sorted(found)))
                self.assertEqual(round_about(floor, home, steps, most=len(found)), tuple(sorted(found)))
                many = len(found) - 1
                check_error(self, TooMany, {"most": many}, round_about, floor, home, steps, most=many)
                for corner in list(found):
                    for j, by in star_of(floor, corner):
                        found.add(neighbour(corner, j, by == 1))
        self.assertEqual(len(round_about(E, HOME, 12)), 377)
        step = (10 ** 59, -10 ** 60 + 1, 3, 9 * 10 ** 59, -4)
        shadow = shadow_of(step)
        far = Floor(plus((1, 0, 3), shadow[0]), plus((1, 0, 3), shadow[1]))
        moved = [tuple([part + by for part, by in zip(row, step)]) for row in round_about(E, HOME, 12)]
        self.assertEqual(round_about(far, moved[0], 0), (moved[0],))
        self.assertEqual(list(round_about(far, tuple([part + by for part, by in zip(HOME, step)]), 12)), moved)
        check_error(self, TooMany, {"most": 4096}, round_about, E, HOME, 10 ** 40)
        check_error(self, TooMany, {"most": 0}, round_about, E, HOME, 0, most=0)
        check_error(self, TooMany, {"most": 8}, round_about, E, HOME, 2, most=8)
        with self.assertRaises(TypeError):
            round_about(E, HOME, 1, 8)

    def test_wrong_arguments(self):
        for floor, corner in ((E, HOME), (W, HOME)):
            for thing in odd_values() + spoiled(corner) + [(1, 0, 0, 0, 0), (0, 0, 0, 0, 0), 7]:
                told = {"thing": thing}
                check_error(self, BadCorner, told, star_of, floor, thing)
                check_error(self, BadCorner, told, tiles_at, corner=thing, floor=floor)
                check_error(self, BadCorner, told, round_about, floor, thing, "x", most=0)
                check_error(self, BadCorner, told, round_about, steps=-1, corner=thing, floor=floor)
            for thing in odd_integers() + [-1, -10 ** 30]:
                check_error(self, BadCount, {"thing": thing}, round_about, floor, corner, thing, most=0)


class TileRows(unittest.TestCase):
    def test_examples(self):
        self.assertEqual(marks_of(THIN_LOW), ("outer", "outer", "down", "down"))
        self.assertIs(is_thick((HOME, 0, 1)), True)
        self.assertIs(is_low((HOME, 0, 1)), False)
        self.assertIs(does_fit(THIN_LOW, ((0, 0, 1, 0, 0), 2, 4)), True)
        self.assertIs(does_fit(THIN_LOW, ((0, 0, 1, 0, 0), 0, 4)), False)

    def test_parts(self):
        for tile in some_tile_rows():
            self.assertIs(is_tile_row(thing=tile), True)
            foot, r, s = tile
            corners = corners_of(tile=tile)
            self.assertEqual(corners[0], foot)
            self.assertEqual(corners[1], neighbour(foot, r, True))
            self.assertEqual(corners[2], neighbour(foot, s, True))
            self.assertEqual(corners[3], neighbour(corners[1], s, True))
            self.assertEqual(edges_of(tile=tile), ((foot, r), (foot, s), (corners[2], r), (corners[1], s)))
            self.assertIs(is_thick(tile=tile), (r, s) in ((0, 1), (1, 2), (2, 3), (3, 4), (0, 4)))
            self.assertIs(is_low(tile=tile), sum(foot) == 1)
            inner = "up" if is_thick(tile) == is_low(tile) else "down"
            right = ("outer", "outer", inner, inner) if is_low(tile) else (inner, inner, "outer", "outer")
            self.assertEqual(marks_of(tile=tile), right)

    def test_what_is_no_tile(self):
        foot = (0, 0, 1, 0, 0)
        not_rows = odd_values() + spoiled(THIN_LOW) + [
            (foot, 4, 1), (foot, 1, 1), (foot, 1, 5), (foot, -1, 4), ((1, 1, 1, 0, 0), 1, 4), ((1, 1, 1, 1, 0), 1, 4),
            ((0, 0, 0, 0, 0), 1, 4), (foot, True, 4), (foot, 1, 4, 0), 0]
        for thing in not_rows:
            told = {"thing": thing}
            self.assertIs(is_tile_row(thing), False)
            for function in (corners_of, edges_of, is_thick, is_low, marks_of):
                check_error(self, BadTile, told, function, thing)
                check_error(self, BadTile, told, function, tile=thing)
            check_error(self, BadTile, told, does_fit, thing, "x")
            check_error(self, BadTile, told, does_fit, THIN_LOW, thing)
            check_error(self, BadTile, told, does_fit, other=None, one=thing)
            check_error(self, BadTile, told, is_left, thing, "x")
            check_error(self, BadTile, told, is_left, edge="x", tile=thing)

    def test_left_and_right(self):
        for tile in some_tile_rows():
            foot, r, s = tile
            for place, edge in enumerate(edges_of(tile)):
                corner, j = edge
                other = s if j == r else r
                reaches_up = corner == foot
                gap = (other - j) % 5
                right = gap in (1, 2) if reaches_up else gap in (3, 4)
                self.assertIs(is_left(tile, edge), right)
                self.assertIs(is_left(edge=edge, tile=tile), right)
                opposite_edge = edges_of(tile)[place ^ 2]
                self.assertIs(is_left(tile, opposite_edge), not right)

    def test_wrong_edges(self):
        edge = ((0, 0, 1, 0, 1), 1)
        self.assertIs(is_left(THIN_LOW, edge), True)
        wrong = [((0, 0, 1, 0, 0), 2), ((0, 0, 1, 0, 1), 4), ((0, 1, 1, 0, 1), 1), ((0, 0, 1, 0, True), 1),
                 ((0, 0, 1, 0, 1), True), ((0, 0, 0, 0, 0), 1)]
        for thing in odd_values() + spoiled(edge) + wrong:
            check_error(self, BadEdge, {"thing": thing}, is_left, THIN_LOW, thing)
            check_error(self, BadEdge, {"thing": thing}, is_left, tile=THIN_LOW, edge=thing)

    def test_fitting(self):
        some = some_tile_rows()
        for one in some[::17]:
            self.assertIs(does_fit(one, one), False)
            for other in tiles_with_common_edge(one):
                place = [edge for edge in edges_of(one) if edge in edges_of(other)]
                right = False
                if one != other:
                    self.assertEqual(len(place), 1)
                    marks = [marks_of(tile)[edges_of(tile).index(place[0])] for tile in (one, other)]
                    right = marks[0] == marks[1] and is_left(one, place[0]) != is_left(other, place[0])
                self.assertIs(does_fit(one=one, other=other), right)
                self.assertIs(does_fit(other, one), right)
            far = (tuple([part + by for part, by in zip(one[0], (9, -9, 0, 0, 0))]), one[1], one[2])
            self.assertIs(does_fit(one, far), False)


def tiles_with_common_edge(tile):
    found = []
    for corner, j in edges_of(tile):
        for s in range(5):
            if s != j:
                lower = list(corner)
                lower[s] -= 1
                for foot in (corner, tuple(lower)):
                    if sum(foot) in (1, 2):
                        found.append((foot, min(j, s), max(j, s)))
    return found


class Marks(unittest.TestCase):
    def test_marks_meet(self):
        for floor in FLOORS:
            by = nearly(floor)
            for corner in round_about(floor, home_of(floor), 3):
                tiles = tiles_at(floor, corner)
                for j in range(5):
                    edge = (corner, j)
                    if not has_edge(floor, edge):
                        continue
                    word = mark_of(floor=floor, edge=edge)
                    self.assertEqual(word, mark_of(by, edge))
                    if sum(corner) in (1, 3):
                        self.assertEqual(word, "outer")
                    else:
                        is_down = is_below_bound(floor, corner, j, (1, 0, 1))
                        self.assertEqual(word, "down" if is_down else "up")
                    at = [tile for tile in tiles if edge in edges_of(tile)]
                    self.assertEqual(len(at), 2)
                    self.assertEqual([is_left(tile, edge) for tile in at].count(True), 1)
                    self.assertTrue(does_fit(at[0], at[1]) and does_fit(at[1], at[0]))
                    for tile in at:
                        self.assertEqual(marks_of(tile)[edges_of(tile).index(edge)], word)

    def test_wrong_edges(self):
        edge = (HOME, 0)
        others = [((0, 0, 1, 0, 0), 3), (HOME, 5), ((1, 0, 0, 0, 0), 1), (HOME, False)]
        for thing in odd_values() + spoiled(edge) + others:
            check_error(self, BadEdge, {"thing": thing}, mark_of, E, thing)
            check_error(self, BadEdge, {"thing": thing}, mark_of, floor=E, edge=thing)


class Opposites(unittest.TestCase):
    def test_opposite_floor(self):
        for floor in FLOORS:
            other = opposite_floor(floor=floor)
            self.assertEqual(other.side, tuple([-part for part in floor.side]))
            self.assertEqual(other.all_keys, tuple([(-a, -b, d) for a, b, d in floor.all_keys]))
            self.assertEqual(whole_keys(other), whole_keys(floor))
            self.assertEqual(opposite_floor(other), floor)
            for row in itertools.product((-1, 0, 1, 2), repeat=5):
                if 1 <= sum(row) <= 4:
                    self.assertIs(has_corner(other, tuple([1 - part for part in row])), has_corner(floor, row))
        self.assertEqual(opposite_floor(ALL_WHOLE).side, (-1, 1, -1, -1, 1))


if __name__ == "__main__":
    unittest.main()
