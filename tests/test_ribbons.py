"""Part 4: ribbons."""

import unittest

from nevertwice.errors import BadCount, BadDirection, BadEdge, BadTile
from nevertwice.fivesheaves import lines_at, meeting, plain, tile_of
from nevertwice.floors import has_tile, home_of
from nevertwice.golden import is_below
from nevertwice.ribbons import across, along, next_tile, ribbon_of, tiles_between
from nevertwice.tiles import edges_of, is_left, round_about, tiles_at
from tests.samples import (ALL_WHOLE, E, W, check_error, edge_floors, nearly, odd_integers, odd_values,
                           regular_floors, spoiled)

FLOORS = regular_floors() + edge_floors()
FIRST = ((0, 0, 1, 0, 1), 0, 1)


def not_tiles(tile):
    foot, r, s = tile
    others = [(foot, s, r), ((5, 0, -4, 0, 0), 0, 1), (foot, r, 9), ((1, 0, 0, 0, 0), 0, 1)]
    return odd_values() + spoiled(tile) + others


class Neighbours(unittest.TestCase):
    def test_across(self):
        for floor in FLOORS:
            by = nearly(floor)
            for corner in round_about(floor, home_of(floor), 2):
                for tile in tiles_at(floor, corner):
                    for edge in edges_of(tile):
                        other = across(floor=floor, tile=tile, edge=edge)
                        self.assertNotEqual(other, tile)
                        self.assertTrue(has_tile(floor, other))
                        self.assertIn(edge, edges_of(other))
                        self.assertNotEqual(is_left(tile, edge), is_left(other, edge))
                        self.assertEqual(across(floor, other, edge), tile)
                        self.assertEqual(across(by, tile, edge), other)

    def test_next_tiles(self):
        for floor in FLOORS:
            for corner in round_about(floor, home_of(floor), 2):
                for tile in tiles_at(floor, corner):
                    for j in tile[1:]:
                        further = next_tile(floor, tile, j)
                        self.assertEqual(further, next_tile(onward=True, direction=j, tile=tile, floor=floor))
                        self.assertEqual(further[0][j], tile[0][j])
                        self.assertIn(j, further[1:])
                        self.assertEqual(next_tile(floor, further, j, False), tile)
                        common = [edge for edge in edges_of(tile) if edge in edges_of(further)]
                        self.assertEqual([edge[1] for edge in common], [j])
                        self.assertTrue(is_left(further, common[0]))

    def test_wrong_tiles(self):
        edge = edges_of(FIRST)[0]
        for thing in not_tiles(FIRST):
            told = {"thing": thing}
            check_error(self, BadTile, told, across, E, thing, edge)
            check_error(self, BadTile, told, across, edge="x", tile=thing, floor=E)
            check_error(self, BadTile, told, next_tile, E, thing, "x")
            check_error(self, BadTile, told, along, E, thing, "x", "y")
            check_error(self, BadTile, told, ribbon_of, E, thing, "x", "y")
            check_error(self, BadTile, told, tiles_between, E, thing, "x")
            check_error(self, BadTile, told, tiles_between, E, FIRST, thing)
            check_error(self, BadTile, told, tiles_between, other=None, one=thing, floor=E)

    def test_wrong_edges(self):
        edge = edges_of(FIRST)[0]
        for thing in odd_values() + spoiled(edge) + [((0, 0, 1, 0, 1), 2), ((0, 0, 1, 0, 1), False), (edge[0], 7)]:
            check_error(self, BadEdge, {"thing": thing}, across, E, FIRST, thing)
            check_error(self, BadEdge, {"thing": thing}, across, floor=E, tile=FIRST, edge=thing)

    def test_wrong_directions(self):
        for thing in odd_integers() + [2, 3, 4, 5, -1]:
            told = {"thing": thing}
            check_error(self, BadDirection, told, next_tile, E, FIRST, thing)
            check_error(self, BadDirection, told, next_tile, E, FIRST, direction=thing, onward=False)
            check_error(self, BadDirection, told, along, E, FIRST, thing, "x")
            check_error(self, BadDirection, told, ribbon_of, E, FIRST, thing, "x")


class Ribbons(unittest.TestCase):
    def test_examples(self):
        row = (FIRST, ((0, 1, 1, 0, 0), 0, 4), ((0, 1, 1, -1, 0), 0, 3), ((0, 1, 1, -1, 0), 0, 1))
        self.assertEqual(ribbon_of(E, FIRST, 0, 4), row)
        self.assertEqual(tiles_between(E, FIRST, row[2]), 2)
        self.assertEqual(next_tile(E, FIRST, 0, False), ((0, 0, 0, 0, 1), 0, 2))

    def test_rows_of_tiles(self):
        for floor in FLOORS:
            home = (home_of(floor), 0, 1)
            for j, l in ((0, 1), (1, 0)):
                row = ribbon_of(direction=j, tile=home, many=40, floor=floor)
                self.assertEqual(len(row), 40)
                current = home
                for tile in row:
                    self.assertEqual(tile, current)
                    current = next_tile(floor, current, j)
                lines = []
                for tile in row:
                    lines += [(s, tile[0][s]) for s in tile[1:] if s != j]
                for s in range(5):
                    numbers = [m for direction, m in lines if direction == s]
                    by = 1 if (s - j) % 5 in (1, 2) else -1
                    if s != j:
                        self.assertEqual(numbers, list(range(numbers[0], numbers[0] + by * len(numbers), by)))
                self.check_heights(floor, row, j)

    def check_heights(self, floor, row, j):
        sheaves = plain(floor)
        heights = [meeting(sheaves, (r, foot[r]), (s, foot[s]))[(j + 1) % 5] for foot, r, s in row]
        for low, high in zip(heights, heights[1:]):
            self.assertFalse(is_below(high, low))
            self.assertTrue(floor.side != (0, 0, 0, 0, 0) or is_below(low, high))

    def test_several_crossings_on_one_point(self):
        # All five lines with the number 0 go through one point of this floor.
        self.assertEqual(len(lines_at(plain(ALL_WHOLE), meeting(plain(ALL_WHOLE), (0, 0), (1, 0)))), 5)
        for floor in [one for one in edge_floors() if one.all_keys == ALL_WHOLE.all_keys]:
            for j in range(5):
                tiles = [tile_of(floor, (j, 0), (s, 0)) for s in range(5) if s != j]
                places = sorted([tiles_between(floor, tiles[0], tile) for tile in tiles])
                self.assertEqual(places, list(range(places[0], places[0] + 4)))

    def test_along(self):
        for floor in FLOORS:
            home = (home_of(floor), 0, 1)
            for j in (0, 1):
                row = ribbon_of(floor, home, j, 60)
                for many, tile in enumerate(row):
                    self.assertEqual(along(many=many, direction=j, tile=home, floor=floor), tile)
                    self.assertEqual(along(floor, tile, j, -many), home)
                    self.assertEqual(tiles_between(floor, home, tile), many)
                    self.assertEqual(tiles_between(one=tile, other=home, floor=floor), -many)

    def test_far_along(self):
        far = 10 ** 30 - 1
        for floor in FLOORS:
            home = (home_of(floor), 0, 1)
            for j in (0, 1):
                for many in (far, -far, far - 1, 12345678901234567):
                    tile = along(floor, home, j, many)
                    self.assertTrue(has_tile(floor, tile))
                    self.assertEqual(tile[0][j], home[0][j])
                    self.assertEqual(tiles_between(floor, home, tile), many)
                    self.assertEqual(along(floor, tile, j, -many), home)
                    self.assertEqual(next_tile(floor, tile, j), along(floor, home, j, many + 1))

    def test_tiles_between(self):
        for floor in FLOORS[::3]:
            for corner in round_about(floor, home_of(floor), 2):
                for tile in tiles_at(floor, corner):
                    self.assertEqual(tiles_between(floor, tile, tile), 0)
                    for j in tile[1:]:
                        self.assertEqual(tiles_between(floor, tile, along(floor, tile, j, 7)), 7)
        apart = tile_of(E, (2, 5), (3, 5))
        check_error(self, BadTile, {"thing": apart}, tiles_between, E, FIRST, apart)
        # They have the number 7 in common at another direction each, but no ribbon.
        beside = tile_of(E, (0, 7), (1, 3))
        check_error(self, BadTile, {"thing": beside}, tiles_between, floor=E, one=FIRST, other=beside)

    def test_counts(self):
        self.assertEqual(ribbon_of(E, FIRST, 0, 0), ())
        self.assertEqual(len(ribbon_of(W, (home_of(W), 0, 1), 1, 400)), 400)
        for thing in odd_integers() + [-1, 401, 10 ** 30]:
            check_error(self, BadCount, {"thing": thing}, ribbon_of, E, FIRST, 0, thing)
            check_error(self, BadCount, {"thing": thing}, ribbon_of, E, FIRST, direction=1, many=thing)
        for thing in odd_integers():
            check_error(self, BadCount, {"thing": thing}, along, E, FIRST, 0, thing)
            check_error(self, BadCount, {"thing": thing}, along, many=thing, direction=1, tile=FIRST, floor=E)


if __name__ == "__main__":
    unittest.main()
