"""Part 8: hexagons, worms and pieces of worms."""

import itertools
import unittest

from nevertwice.barlines import bar_of, phase_of
from nevertwice.bounds import own_bounds
from nevertwice.edges import sides_beside, turned, with_side
from nevertwice.errors import AtTheEdge, BadCorner, BadCount, BadDirection, BadHexagon, BadNumber
from nevertwice.fivesheaves import edge_line, tile_of
from nevertwice.floors import has_corner, has_edge, has_tile, home_of, whole_keys
from nevertwice.golden import are_equal, is_below, minus, plus, power, reduced, times
from nevertwice.patches import does_live, patch_holds
from nevertwice.ribbons import ribbon_of
from nevertwice.tiles import corners_of, round_about, star_of, tiles_at
from nevertwice.worms import (does_stand, hexagon_at, hexagon_by, inner_corner, inner_corners, is_hexagon, long_piece,
                              piece_of, rim_of, tiles_in, whole_of)
from tests.patch_samples import FAR_STEP, added, far_floor
from tests.samples import (ALL_WHOLE, E, W, check_error, edge_floors, long_floors, nearly, odd_integers, odd_values,
                           regular_floors, spoiled)

EDGES = edge_floors()
REGULAR = regular_floors() + long_floors()
FEET = [(1, 0, 0, 0, 0), (2, -3, 1, 4, -3), (0, 0, 1, 0, 0), (10 ** 60 - 1, 2 - 10 ** 60, 7, -7, 0)]
HEXAGONS = [(foot, r, kind) for foot in FEET for r in range(5) for kind in ("near", "far")]
WHOLES = [(0, 0, 1), (2, -1, 1), (-3, 2, 1), (8, -13, 1), (10 ** 59, -3, 1)]


def near_hexagons(floor, steps):
    """Hexagons of which some corners are near the home of a floor, standing or not."""
    found = {}
    for corner in round_about(floor, home_of(floor), steps):
        for r in range(5):
            for by in (0, 1):
                for kind, ahead in (("near", r + by), ("far", r + 2 * by)):
                    foot = list(corner)
                    foot[ahead % 5] -= sum(corner) - 1
                    found[(tuple(foot), r, kind)] = True
    return list(found)


def directions_by(hexagon):
    _, r, kind = hexagon
    return [(r - 1) % 5, r, (r + 1) % 5] if kind == "near" else [(r - 2) % 5, r, (r + 2) % 5]


def corner_with(foot, directions):
    row = list(foot)
    for j in directions:
        row[j % 5] += 1
    return tuple(row)


def eight(hexagon):
    three = directions_by(hexagon)
    return {corner_with(hexagon[0], [j for j, is_in in zip(three, told) if is_in])
            for told in itertools.product((False, True), repeat=3)}


def plus_and_minus(hexagon):
    foot, r, kind = hexagon
    if kind == "near":
        return corner_with(foot, [r - 1, r + 1]), corner_with(foot, [r])
    return foot, corner_with(foot, [r - 2, r, r + 2])


def stands_by(floor, hexagon):
    return all([has_corner(floor, corner) for corner in eight(hexagon) - set(plus_and_minus(hexagon))])


class Hexagons(unittest.TestCase):
    def test_examples(self):
        far = ((0, 0, 0, 0, 1), 0, "far")
        near = ((0, 0, 1, 0, 0), 0, "near")
        self.assertEqual(hexagon_by(W, 0, (0, 0, 1), 0), far)
        self.assertEqual(hexagon_by(W, 0, (0, 0, 1), 1), near)
        self.assertEqual(rim_of(far), ((0, 0, 0, 1, 1), (0, 0, 1, 0, 1), (0, 0, 1, 1, 1), (1, 0, 0, 0, 1),
                                       (1, 0, 0, 1, 1), (1, 0, 1, 0, 1)))
        self.assertEqual(set(rim_of(far)) & set(rim_of(near)), {(0, 0, 1, 0, 1), (1, 0, 1, 0, 1)})
        self.assertEqual(inner_corners(far), ((0, 0, 0, 0, 1), (1, 0, 1, 1, 1)))
        self.assertEqual(inner_corner(W, far), (0, 0, 0, 0, 1))
        self.assertEqual(inner_corner(turned(W, 0), far), (1, 0, 1, 1, 1))
        self.assertEqual(hexagon_at(E, (0, 0, 1, 0, 0)), ((0, 0, 1, 0, 0), 4, "far"))
        self.assertEqual(whole_of(((0, 0, 1, 0, 0), 4, "far")), (-1, 0, 1))
        self.assertIsNone(hexagon_at(E, (0, 0, 1, 0, 1)))
        self.assertEqual(hexagon_by(E, 0, (2, -1, 1), 0), ((1, 0, -1, -1, 2), 0, "far"))
        self.assertEqual(inner_corner(E, ((1, 0, -1, -1, 2), 0, "far")), (2, 0, 0, 0, 2))
        self.assertEqual(piece_of(E, 0, (2, -1, 1), 0), (-9, 9))
        self.assertIsNone(piece_of(E, 0, (0, 0, 1), 0))

    def test_what_is_a_hexagon(self):
        for hexagon in HEXAGONS:
            self.assertIs(is_hexagon(thing=hexagon), True)
        foot = FEET[0]
        for thing in odd_values() + spoiled((foot, 2, "near")) + [
                ((1, 1, 0, 0, 0), 2, "near"), ((0, 0, 0, 0, 0), 2, "far"), (foot, 5, "far"), (foot, -1, "far"),
                (foot, 2, "Near"), (foot, 2, "nearfar"), (foot, 2, ""), (foot, True, "near"), (foot, 2), 0]:
            if thing == (foot, 2, "near"):
                continue
            self.assertIs(is_hexagon(thing), False)
            for call in (whole_of, rim_of, inner_corners):
                check_error(self, BadHexagon, {"thing": thing}, call, thing)
                check_error(self, BadHexagon, {"thing": thing}, call, hexagon=thing)
            check_error(self, BadHexagon, {"thing": thing}, tiles_in, thing, True)
            check_error(self, BadHexagon, {"thing": thing}, tiles_in, is_plus=False, hexagon=thing)
            check_error(self, BadHexagon, {"thing": thing}, does_stand, E, thing)
            check_error(self, BadHexagon, {"thing": thing}, inner_corner, hexagon=thing, floor=W)

    def test_their_corners_and_tiles(self):
        for hexagon in HEXAGONS:
            inner = plus_and_minus(hexagon)
            self.assertEqual(inner_corners(hexagon=hexagon), inner)
            rim = rim_of(hexagon=hexagon)
            self.assertEqual(rim, tuple(sorted(eight(hexagon) - set(inner))))
            for is_plus, corner in ((True, inner[0]), (False, inner[1])):
                tiles = tiles_in(is_plus=is_plus, hexagon=hexagon)
                self.assertEqual(list(tiles), sorted(tiles))
                pairs = sorted([(r, s) for _, r, s in tiles])
                self.assertEqual(pairs, list(itertools.combinations(sorted(directions_by(hexagon)), 2)))
                for tile in tiles:
                    self.assertIn(corner, corners_of(tile))
                    self.assertEqual(len(set(corners_of(tile)) & set(rim)), 3)

    def test_plus_and_minus_never_meet(self):
        for hexagon in HEXAGONS:
            _, r, _ = hexagon
            above, below = inner_corners(hexagon)
            self.assertEqual(own_bounds(above)[r], whole_of(hexagon=hexagon))
            self.assertEqual(own_bounds(below)[r], whole_of(hexagon))
            self.assertEqual(sum(above) in (1, 3), True)
            self.assertEqual(sum(below) in (2, 4), True)
        for floor, number in itertools.product((E, W), (0, 4)):
            one = hexagon_by(floor, 3, (5, -4, 1), number)
            other = hexagon_by(floor, 3, (5, -4, 1), number + 9)
            patch = tuple(sorted([inner_corners(one)[0], inner_corners(other)[1]]))
            self.assertIs(does_live(patch), False)
            self.assertIs(patch_holds(patch, ("pair", 3)), True)

    def test_standing_ones(self):
        for floor in [E] + REGULAR[1:3] + EDGES[::4] + [far_floor(E)]:
            many = 0
            for hexagon in near_hexagons(floor, 2):
                right = stands_by(floor, hexagon)
                self.assertIs(does_stand(hexagon=hexagon, floor=floor), right)
                if not right:
                    self.assertIsNone(inner_corner(floor, hexagon))
                    continue
                many += 1
                _, r, _ = hexagon
                corner = inner_corner(hexagon=hexagon, floor=floor)
                whole = whole_of(hexagon)
                is_plus = is_below(whole, floor.all_keys[r])
                if are_equal(whole, floor.all_keys[r]):
                    is_plus = floor.side[r] == 1
                self.assertEqual(corner, inner_corners(hexagon)[0 if is_plus else 1])
                self.assertEqual([has_corner(floor, part) for part in inner_corners(hexagon)], [is_plus, not is_plus])
                self.assertEqual(tiles_at(floor, corner), tiles_in(hexagon, is_plus))
                self.assertEqual(hexagon_at(floor, corner), hexagon)
            self.assertGreater(many, 3)

    def test_hexagons_at_corners(self):
        for floor in REGULAR[:4] + EDGES[::3]:
            for corner in round_about(floor, home_of(floor), 3):
                hexagon = hexagon_at(corner=corner, floor=floor)
                self.assertEqual(hexagon is not None, len(star_of(floor, corner)) == 3)
                if hexagon is not None:
                    self.assertIs(is_hexagon(hexagon), True)
                    self.assertIs(does_stand(floor, hexagon), True)
                    self.assertIn(corner, inner_corners(hexagon))
        for thing in odd_values() + [(1, 0, 0, 0, 0), (0, 0, 0, 0, 0), 0]:
            check_error(self, BadCorner, {"thing": thing}, hexagon_at, E, thing)
            check_error(self, BadCorner, {"thing": thing}, hexagon_at, corner=thing, floor=E)


class Numbers(unittest.TestCase):
    def test_hexagons_by_number(self):
        for floor in REGULAR + EDGES[::2]:
            for r, whole in itertools.product(range(5), WHOLES):
                for number in (-2, -1, 0, 1, 10 ** 59):
                    hexagon = hexagon_by(number=number, whole=whole, direction=r, floor=floor)
                    self.assertIs(is_hexagon(hexagon), True)
                    self.assertEqual(hexagon[1], r)
                    self.assertEqual(whole_of(hexagon), whole)
                    longer = hexagon_by(floor, r, (whole[0] * 6, whole[1] * 6, 6), number)
                    self.assertEqual(longer, hexagon)
                    bars = bar_of(floor, (r + 1) % 5, number), bar_of(floor, (r + 1) % 5, number + 1)
                    self.assertEqual(hexagon[2], "near" if bars[1][1] > bars[0][1] else "far")
                    following = hexagon_by(floor, r, whole, number + 1)
                    common = sorted(set(rim_of(hexagon)) & set(rim_of(following)))
                    self.assertEqual(len(common), 2)
                    self.assertEqual(corner_with(common[0], [r]), common[1])

    def test_all_standing_ones_have_numbers(self):
        for floor in REGULAR[:3] + EDGES[::5]:
            for hexagon in near_hexagons(floor, 3):
                if does_stand(floor, hexagon):
                    _, r, _ = hexagon
                    whole = whole_of(hexagon)
                    found = [hexagon_by(floor, r, whole, number) for number in self.numbers_near(floor, hexagon)]
                    self.assertIn(hexagon, found)

    def numbers_near(self, floor, hexagon):
        """The numbers of the bars whose x is the one that the hexagon tells."""
        foot, r, _ = hexagon
        x = foot[(r + 1) % 5]
        y = foot[(r + 2) % 5] + foot[r]
        return range(x + y - 2, x + y + 3)

    def test_wrong_arguments(self):
        whole = (2, -1, 1)
        for thing in odd_integers() + [5, -1]:
            for call in (hexagon_by, piece_of):
                check_error(self, BadDirection, {"thing": thing}, call, E, thing, None, None)
                check_error(self, BadDirection, {"thing": thing}, call, number=0, whole=whole, direction=thing, floor=E)
            check_error(self, BadDirection, {"thing": thing}, long_piece, E, thing, None)
            check_error(self, BadDirection, {"thing": thing}, long_piece, length=3, direction=thing, floor=E)
        for thing in odd_values() + spoiled(whole) + [(1, 0, 2), (1, 1, 3), (2, 1, 0), 1]:
            if isinstance(thing, tuple) and thing in ((2, -1, 1), (1, 0, 1), (-1, 0, 1)):
                continue
            for call in (hexagon_by, piece_of):
                check_error(self, BadNumber, {"thing": thing}, call, E, 0, thing, None)
                check_error(self, BadNumber, {"thing": thing}, call, number=0, whole=thing, direction=2, floor=E)
        for thing in odd_integers():
            for call in (hexagon_by, piece_of):
                check_error(self, BadCount, {"thing": thing}, call, E, 0, whole, thing)
                check_error(self, BadCount, {"thing": thing}, call, number=thing, whole=whole, direction=2, floor=E)
        for thing in odd_integers() + [0, -1, -10 ** 30]:
            check_error(self, BadCount, {"thing": thing}, long_piece, E, 4, thing)
        for floor in EDGES:
            told = {"directions": whole_keys(floor)}
            for thing in odd_integers()[::4]:
                check_error(self, AtTheEdge, told, piece_of, floor, thing, thing, thing)
                check_error(self, AtTheEdge, told, long_piece, floor, thing, thing)
            check_error(self, AtTheEdge, told, piece_of, floor, 0, whole, 0)
            check_error(self, AtTheEdge, told, long_piece, length=1, direction=0, floor=floor)


class Worms(unittest.TestCase):
    def test_all_hexagons_of_a_worm_stand(self):
        for floor in EDGES:
            for r, side in sides_beside(floor):
                other = with_side(floor, side)
                above, below = (floor, other) if floor.side[r] == 1 else (other, floor)
                for number in list(range(-6, 7)) + [10 ** 60, -10 ** 60]:
                    hexagon = hexagon_by(floor, r, floor.all_keys[r], number)
                    self.assertEqual(hexagon_by(other, r, floor.all_keys[r], number), hexagon)
                    self.assertIs(does_stand(floor, hexagon), True)
                    self.assertIs(does_stand(other, hexagon), True)
                    self.assertEqual(inner_corner(above, hexagon), inner_corners(hexagon)[0])
                    self.assertEqual(inner_corner(below, hexagon), inner_corners(hexagon)[1])

    def test_floors_with_the_same_keys_differ_along_worms_alone(self):
        for floor in EDGES[::3] + [W, turned(ALL_WHOLE, 2)]:
            for r, side in sides_beside(floor):
                other = with_side(floor, side)
                line = edge_line(floor, r)
                start = tile_of(floor, (r, line), ((r + 1) % 5, 0))[0]
                inner = {}
                for number in range(-60, 61):
                    for part in inner_corners(hexagon_by(floor, r, floor.all_keys[r], number)):
                        inner[part] = True
                for corner in round_about(floor, start, 4):
                    if not has_corner(other, corner):
                        self.assertIn(corner, inner)
                for corner in [part for part in inner if has_corner(floor, part)]:
                    self.assertIs(has_corner(other, corner), False)

    def test_the_tiles_of_a_worm(self):
        for floor in EDGES[::3] + [W, ALL_WHOLE]:
            for r, _ in sides_beside(floor):
                line = edge_line(floor, r)
                tiles = {}
                for number in range(-30, 31):
                    hexagon = hexagon_by(floor, r, floor.all_keys[r], number)
                    three = tiles_in(hexagon, floor.side[r] == 1)
                    with_r = [tile for tile in three if r in tile[1:]]
                    self.assertEqual(len(with_r), 2)
                    for tile in with_r:
                        self.assertIs(has_tile(floor, tile), True)
                        self.assertEqual(tile[0][r], line)
                        tiles[tile] = True
                start = sorted(tiles)[len(tiles) // 2]
                row = [tile for tile in ribbon_of(floor, start, r, 5)]
                for tile in row:
                    self.assertIn(tile, tiles)


class Pieces(unittest.TestCase):
    def test_which_ones_stand(self):
        for floor in REGULAR[:4]:
            for r, whole in itertools.product(range(5), ((2, -1, 1), (0, 0, 1), (-4, 3, 1), (1, -1, 1))):
                self.check_numbers(floor, r, whole, range(-12, 13))
            for r in range(5):
                self.check_numbers(floor, r, long_piece(floor, r, 9)[0], range(-30, 31))

    def check_numbers(self, floor, r, whole, numbers):
        for number in numbers:
            piece = piece_of(number=number, whole=whole, direction=r, floor=floor)
            hexagon = hexagon_by(floor, r, whole, number)
            self.assertEqual(piece is not None, does_stand(floor, hexagon))
            if piece is not None:
                low, high = piece
                self.assertTrue(low <= number <= high)
                self.assertFalse(does_stand(floor, hexagon_by(floor, r, whole, low - 1)))
                self.assertFalse(does_stand(floor, hexagon_by(floor, r, whole, high + 1)))
                for at in range(low, min(high, low + 20) + 1):
                    self.assertTrue(does_stand(floor, hexagon_by(floor, r, whole, at)))
                self.assertEqual(piece_of(floor, r, whole, high), piece)
                self.assertEqual(piece_of(floor, r, (whole[0] * 2, whole[1] * 2, 2), low), piece)

    def test_the_rule_for_standing(self):
        for floor in REGULAR:
            for r, whole in itertools.product(range(5), WHOLES):
                for number in (-3, 0, 8, 10 ** 60 - 1):
                    p = phase_of(floor, bar_of(floor, (r + 1) % 5, number))
                    q = minus(p, times((0, 1, 1), minus(floor.all_keys[r], whole)))
                    is_phase_too = is_below((1, -1, 1), q) and is_below(q, (1, 0, 1))
                    right = is_phase_too and is_below(p, (0, 0, 1)) == is_below(q, (0, 0, 1))
                    self.assertIs(does_stand(floor, hexagon_by(floor, r, whole, number)), right)
                    self.assertIs(piece_of(floor, r, whole, number) is not None, right)

    def test_long_pieces(self):
        for floor in REGULAR:
            for r in range(5):
                for length in (1, 2, 3, 10, 35, 10 ** 12, 10 ** 30 - 1):
                    whole, number = long_piece(length=length, direction=r, floor=floor)
                    self.assertEqual(whole, reduced(whole))
                    self.assertEqual(whole[2], 1)
                    low, high = piece_of(floor, r, whole, number)
                    self.assertTrue(low <= number and number + length - 1 <= high)
                    for at in (number, number + length // 2, number + length - 1):
                        self.assertIs(does_stand(floor, hexagon_by(floor, r, whole, at)), True)
                    for at in (low, high):
                        self.assertEqual(piece_of(floor, r, whole, at), (low, high))
                    for at in (low - 1, high + 1):
                        self.assertIs(does_stand(floor, hexagon_by(floor, r, whole, at)), False)

    def test_pieces_are_as_long_as_the_key_is_near(self):
        for m in (5, 20, 60):
            key = E.all_keys[3]
            scale = power(m)
            times_key = times(scale, key)
            whole = times((self.below(times_key), 0, 1), power(-m))
            self.assertTrue(is_below(whole, key) and is_below(minus(key, whole), power(-m)))
            piece = [piece_of(E, 3, whole, number) for number in (0, 1, 2)]
            found = [pair for pair in piece if pair is not None][0]
            self.assertGreaterEqual(found[1] - found[0], self.below(power(m - 3)))

    def below(self, number):
        a, b, d = number
        value = 0
        step = 1 << 400
        start = -(1 << 399)
        while step:
            if not is_below(number, (start + value + step, 0, 1)):
                value += step
            step //= 2
        return start + value

    def test_far_places(self):
        far = far_floor(E)
        for r in range(5):
            whole, number = long_piece(far, r, 10 ** 29)
            hexagon = hexagon_by(far, r, whole, number)
            self.assertIs(does_stand(far, hexagon), True)
            self.assertIs(has_edge(far, (min(set(rim_of(hexagon)) & set(rim_of(hexagon_by(far, r, whole, number + 1)))),
                                         r)), True)
        foot, r, kind = hexagon_at(E, (0, 0, 1, 0, 0))
        self.assertIs(does_stand(far, (added(foot, FAR_STEP), r, kind)), True)
        self.assertEqual(plus(whole_of((foot, r, kind)), minus(far.all_keys[r], E.all_keys[r])),
                         whole_of((added(foot, FAR_STEP), r, kind)))
        self.assertIs(does_stand(nearly(W), hexagon_by(W, 0, (0, 0, 1), 3)), True)


if __name__ == "__main__":
    unittest.main()
