"""What the document guarantees over the whole program ([0.4])."""

import itertools
import random
import unittest

from nevertwice.addresses import address_of, floor_of_address, judge_meeting, meeting_holds
from nevertwice.barlines import bars_hold, bars_of, has_bar, height_of, judge_bars
from nevertwice.corners import point_of
from nevertwice.edges import sides_beside, turns_between, turns_hold, with_side
from nevertwice.fivesheaves import judge_row, meeting, plain, row_at, row_holds, tile_of
from nevertwice.floors import Floor, has_corner, home_of, sides
from nevertwice.gaprows import gaps_hold, judge_gaps
from nevertwice.gathering import gathered, gathered_corner, is_great
from nevertwice.golden import is_below, is_whole, minus
from nevertwice.halves import has_half, parent_of
from nevertwice.moving import judge_move, move_holds, moved
from nevertwice.patches import a_floor, does_live, judge_patch, patch_holds
from nevertwice.sure import judge_sure, sure_holds
from nevertwice.tiles import corners_of, round_about, tiles_at
from nevertwice.ways import a_way, steps_between, way_holds
from nevertwice.worms import hexagon_by, inner_corners
from nevertwice.yards import Yard, fault_holds
from tests.patch_samples import FAR_STEP, KINDS, T, dead_patches, living_patches, right_papers, told_bounds
from tests.samples import ALL_WHOLE, E, W, all_sided, edge_floors, nearly, odd_values, regular_floors

FLOORS = regular_floors()[:4] + edge_floors()[::3] + [ALL_WHOLE]


def all_rows(reach):
    return [row for row in itertools.product(range(-reach, reach + 1), repeat=5) if 1 <= sum(row) <= 4]


def crossings(floor, reach):
    """The tiles of the crossings of all lines with small numbers."""
    found = {}
    numbers = range(-reach, reach + 1)
    for j, l in itertools.combinations(range(5), 2):
        for m, n in itertools.product(numbers, repeat=2):
            found[tile_of(floor, (j, m), (l, n))] = (j, m, l, n)
    return found


class Tellings(unittest.TestCase):
    def test_windows_and_crossings(self):
        for floor in FLOORS:
            tiles = crossings(floor, 2)
            corners = {corner for tile in tiles for corner in corners_of(tile)}
            for corner in corners:
                self.assertIs(has_corner(floor, corner), True)
            # Each small corner that the windows tell has a tile, and this is a crossing of its two lines.
            for corner in all_rows(1):
                if has_corner(floor, corner):
                    foot, r, s = tiles_at(floor, corner)[0]
                    self.assertEqual(tile_of(floor, (r, foot[r]), (s, foot[s])), (foot, r, s))
                    self.assertTrue(corner in corners or max(map(abs, foot)) > 1)
            # For any two lines of two sheaves one tile.
            self.assertEqual(len(tiles), 10 * 25)
            for (foot, r, s), (j, m, l, n) in tiles.items():
                self.assertEqual((r, s, foot[r], foot[s]), (j, l, m, n))

    def test_regular_floors_by_points(self):
        for floor in regular_floors()[:4]:
            for j, l in ((0, 1), (2, 4)):
                for m, n in itertools.product((-3, 0, 2), repeat=2):
                    point = meeting(plain(floor), (j, m), (l, n))
                    self.assertEqual(row_at(plain(floor), point), tile_of(floor, (j, m), (l, n))[0])

    def test_floors_at_the_edge_are_told_by_near_ones(self):
        for floor in edge_floors()[1::4]:
            for corner in all_rows(1):
                self.assertIs(has_corner(floor, corner), has_corner(nearly(floor), corner))

    def test_addresses_there_and_back(self):
        for floor in FLOORS:
            for tile in [tile_of(floor, (0, 0), (1, 0)), tile_of(floor, (2, 10 ** 20), (4, -7))]:
                for half in (tile, (tile[0], tile[2], tile[1])):
                    address = address_of(floor, half)
                    self.assertEqual(floor_of_address(address), floor)
                    _, parent = parent_of(floor, half)
                    self.assertIs(has_half(gathered(floor), parent), True)

    def test_great_corners(self):
        for floor in FLOORS:
            for corner in round_about(floor, home_of(floor), 2):
                self.assertIs(has_corner(gathered(floor), gathered_corner(corner)), is_great(floor, corner))

    def test_moves(self):
        for floor in FLOORS:
            self.assertEqual(judge_move(floor, moved(floor, FAR_STEP)), ("moved", FAR_STEP))
            corner = round_about(floor, home_of(floor), 1)[0]
            far = tuple([part + by for part, by in zip(corner, FAR_STEP)])
            self.assertIs(has_corner(moved(floor, FAR_STEP), far), True)

    def test_each_tile_is_crossed_by_one_bar_of_each_class(self):
        for floor in FLOORS[::2]:
            for tile in crossings(floor, 1):
                bars = bars_of(tile)
                for j in range(5):
                    self.assertEqual(bars[j][0], j)
                    self.assertIs(has_bar(floor, bars[j]), True)
                    heights = [point_of(corner)[j] for corner in corners_of(tile)]
                    through = []
                    for by in (-1, 0, 1):
                        for x in range(bars[j][1] - 2, bars[j][1] + 3):
                            bar = (j, x, bars[j][1] + bars[j][2] + by - x)
                            if has_bar(floor, bar):
                                height = height_of(bar)
                                below = any([is_below(part, height) for part in heights])
                                if below and any([is_below(height, part) for part in heights]):
                                    through.append(bar)
                    self.assertEqual(through, [bars[j]])

    def test_floors_with_the_same_keys_differ_along_worms(self):
        for floor in edge_floors()[::5] + [ALL_WHOLE]:
            for other in all_sided(*floor.all_keys[:2]):
                turns = turns_between(floor, other)
                inner = {}
                current = floor
                for r in turns:
                    for number in range(-40, 41):
                        for corner in inner_corners(hexagon_by(current, r, floor.all_keys[r], number)):
                            inner[corner] = True
                    current = with_side(current, dict(sides_beside(current))[r])
                self.assertEqual(current, other)
                for corner in all_rows(1):
                    if has_corner(floor, corner) != has_corner(other, corner):
                        self.assertIn(corner, inner)

    def test_steps_between_corners(self):
        source = random.Random(3)
        for floor in FLOORS:
            corners = round_about(floor, home_of(floor), 3)
            for _ in range(5):
                one, other = source.choice(corners), source.choice(corners)
                many = sum([abs(part - against) for part, against in zip(one, other)])
                self.assertEqual(steps_between(floor, one, other), many)
                self.assertEqual(len(a_way(floor, one, other)), many + 1)

    def test_patches(self):
        for patch in living_patches()[::4]:
            floor = a_floor(patch)
            self.assertTrue(all([has_corner(floor, corner) for corner in patch]))
        for patch in dead_patches()[::4]:
            self.assertIs(does_live(patch), False)
            self.assertGreater(len(right_papers(*told_bounds(patch))), 0)


class Papers(unittest.TestCase):
    """Papers are accepted exactly if they are right, whoever made them."""

    def candidates(self):
        """Papers of all kinds, most of them wrong for whatever they are shown for."""
        numbers = [(1, 0, 3), (-1, 0, 3), (2, 0, 6), (0, 0, 1), (1, -1, 1)]
        found = [(kind, r) for kind in KINDS + ("out", "unlike", "meet") for r in range(6)]
        found.extend([("lives", one, other) for one in numbers for other in numbers])
        found.extend([("between", one, other) for one in numbers for other in numbers])
        found.extend([("both", one, other) for one in numbers for other in numbers])
        found.extend([(kind, n, p) for kind in ("stretch", "never") for n in range(5) for p in range(1, 6)])
        found.extend([("sides",), ("no worm",), ("kept",), ("edge", (0,)), ("edge", (0, 1, 2, 3, 4)),
                      ("moved", (0, 0, 0, 0, 0)), ("sure", (0, 0, 0, 0, 0)), ("barred", ("pair", 1))])
        return found + odd_values()

    def accepted(self, holds):
        return [thing for thing in self.candidates() if holds(thing)]

    def test_papers_for_patches(self):
        for patch in [T] + dead_patches()[:6]:
            paper = judge_patch(patch)
            self.assertIs(patch_holds(patch, paper), True)
            kinds = {thing[0] == "lives" for thing in self.accepted(lambda thing: patch_holds(patch, thing)) + [paper]}
            self.assertEqual(len(kinds), 1)
            right = right_papers(*told_bounds(patch))
            for thing in self.accepted(lambda thing: patch_holds(patch, thing)):
                if thing[0] == "lives":
                    floor = Floor(thing[1], thing[2])
                    self.assertTrue(all([has_corner(floor, corner) for corner in patch]))
                else:
                    self.assertIn(thing, right)

    def test_papers_for_corners_rows_moves_and_ways(self):
        for corner in ((0, 1, 1, 0, 0), (1, 0, 0, 0, 0), (0, 1, 0, 0, 0)):
            paper = judge_sure(T, corner)
            found = self.accepted(lambda thing: sure_holds(T, corner, thing)) + [paper]
            self.assertEqual({thing[0] for thing in found}, {paper[0]})
        for corner in ((0, 0, 1, 0, 1), (1, 0, 0, 0, 0)):
            paper = judge_row(E, corner)
            found = self.accepted(lambda thing: row_holds(E, corner, thing)) + [paper]
            self.assertEqual({thing[0] for thing in found}, {paper[0]})
        for one, other in itertools.product((E, W, ALL_WHOLE, with_side(W, (-1, 0, 0, 0, 0))), repeat=2):
            paper = judge_move(one, other)
            found = self.accepted(lambda thing: move_holds(one, other, thing)) + [paper]
            self.assertEqual({thing[0] for thing in found}, {paper[0]})
            for thing in found:
                if thing[0] == "unlike":
                    gap = minus(one.all_keys[thing[1]], other.all_keys[thing[1]])
                    self.assertIs(is_whole(gap), False)
        one, other = (0, 0, 1, 0, 0), (0, 1, 1, 0, 1)
        self.assertIs(way_holds(E, one, other, a_way(E, one, other)), True)
        self.assertEqual(self.accepted(lambda thing: way_holds(E, one, other, thing)), [])

    def test_papers_for_bars_gaps_and_turns(self):
        for bars in (((0, 0, 0), (0, 0, 2)), ((0, 0, 0), (1, 0, 0)), ((2, 5, 5),)):
            paper = judge_bars(bars)
            found = self.accepted(lambda thing: bars_hold(bars, thing)) + [paper]
            self.assertEqual(len({thing[0] == "lives" for thing in found}), 1)
        for gaps in ("", "L", "SS", "LSL", "LSLSLS"):
            paper = judge_gaps(gaps)
            found = self.accepted(lambda thing: gaps_hold(gaps, thing)) + [paper]
            self.assertEqual({thing[0] for thing in found}, {paper[0]})
        for side in sides((0, 0, 1), (0, 0, 1)):
            other = with_side(ALL_WHOLE, side)
            found = self.accepted(lambda thing: turns_hold(ALL_WHOLE, other, thing))
            self.assertEqual(found, [()] if side == ALL_WHOLE.side else [])

    def test_papers_for_meeting(self):
        half = ((0, 0, 1, 0, 1), 0, 1)
        for other in (half, ((0, 0, 1, 0, 1), 1, 0), ((0, 0, 1, 0, 0), 1, 4)):
            paper = judge_meeting(E, half, other)
            found = self.accepted(lambda thing: meeting_holds(E, half, other, thing)) + [paper]
            self.assertEqual({thing[0] for thing in found}, {paper[0]})

    def test_faults(self):
        yard = Yard()
        yard.deal((("floor", "e", E), ("floor", "w", W), ("patch", "t", T)))
        for promise in (("regular", "e"), ("regular", "w"), ("has", "e", "t"), ("same", "e", "w"), ("same", "w", "w"),
                        ("lives", "t"), ("never", "t", "t"), ("follows", "t", "t"), ("worm", "w", 0), ("worm", "e", 0)):
            told = yard.judged(promise)
            found = self.accepted(lambda thing: fault_holds(yard, promise, thing))
            self.assertEqual({thing[0] for thing in found + [told]}, {told[0]})
            self.assertIs(fault_holds(yard, promise, told), told != ("kept",))


if __name__ == "__main__":
    unittest.main()
