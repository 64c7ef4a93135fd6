"""Part 7: bars, the tiles on them, and papers for told bars."""

import itertools
import random
import unittest

from nevertwice.barlines import (along_bar, bar_below, bar_of, bars_between, bars_hold, bars_of, crossing_of, has_bar,
                                 height_of, is_bar, judge_bars, phase_of)
from nevertwice.corners import done, is_point, point_of
from nevertwice.errors import BadBar, BadBars, BadCount, BadDirection, BadNumber, BadTile, TooMany
from nevertwice.fivesheaves import tile_of
from nevertwice.floors import Floor, has_tile, home_of, whole_keys
from nevertwice.golden import are_equal, integer_below, is_below, is_whole, minus, plus, power, reduced, times
from nevertwice.tiles import corners_of, edges_of, is_low, is_thick
from tests.patch_samples import FAR_STEP, G, KINDS, added, far_floor, near_tiles, right_papers
from tests.samples import (ALL_WHOLE, E, W, check_error, edge_floors, long_floors, nearly, odd_integers,
                           odd_values, regular_floors, spoiled)

EDGES = edge_floors()
FLOORS = regular_floors() + long_floors() + EDGES
BESIDE = regular_floors() + long_floors() + [nearly(floor) for floor in EDGES]
ONE = (1, 0, 1)
LEAST = (1, -1, 1)
FIRST = ((0, 0, 1, 0, 1), 0, 1)
NEAR = [(j, x, y) for j in range(5) for x in range(-5, 6) for y in range(-5, 6)]
FAR_NUMBERS = (10 ** 60 - 1, -10 ** 59 - 7, 123456789)
PAPERS = [(kind, r) for kind in KINDS for r in range(5)]


def phase_in(floor, bar):
    """y - (g - 1) x - t_j."""
    j, x, y = bar
    return minus(minus((y, 0, 1), times((-1, 1, 1), (x, 0, 1))), floor.all_keys[j])


def height_by(bar):
    """(2 g - 1)(g x + y) / 2 - (3 g + 1) / 4."""
    _, x, y = bar
    return minus(times(times((-1, 2, 1), plus(times(G, (x, 0, 1)), (y, 0, 1))), (1, 0, 2)), (1, 3, 4))


def number_of(bar):
    return bar[1] + bar[2]


class Bars(unittest.TestCase):
    def test_examples(self):
        self.assertEqual(bar_of(E, 0, 0), (0, 0, 0))
        self.assertEqual(phase_of(E, (0, 0, 0)), (-1, 0, 3))
        self.assertEqual(phase_of(E, bar_of(E, 0, 1)), (2, 0, 3))
        self.assertEqual(phase_of(E, bar_of(E, 0, 2)), (5, -3, 3))
        self.assertEqual(phase_of(E, bar_of(E, 0, 3)), (8, -6, 3))
        self.assertEqual(height_of((0, 0, 0)), (-1, -3, 4))
        self.assertEqual(bar_of(W, 1, 0), (1, 0, 0))
        self.assertEqual(phase_of(W, (1, 0, 0)), (-1, 0, 2))
        self.assertEqual(bar_of(W, 1, 1), (1, 0, 1))
        # The x of two bars far away from one another.
        gap = bar_of(E, 0, 10 ** 30)[1] - bar_of(E, 0, 0)[1]
        self.assertEqual(gap, 618033988749894848204586834365)

    def test_what_is_a_bar(self):
        for bar in NEAR[::7] + [(4, 10 ** 60, -10 ** 60)]:
            self.assertIs(is_bar(bar), True)
            self.assertIs(is_bar(thing=bar), True)
        for thing in odd_values() + spoiled((2, 3, -4)) + [(5, 0, 0), (-1, 0, 0), (0, 0), (0, 0, 0, 0), [0, 0, 0],
                                                           (True, 0, 0), (0, False, 0), 0]:
            self.assertIs(is_bar(thing), is_right(thing))
            if not is_right(thing):
                self.assertIs(has_bar(E, thing), False)
                check_error(self, BadBar, {"thing": thing}, phase_of, E, thing)
                check_error(self, BadBar, {"thing": thing}, phase_of, bar=thing, floor=W)
                check_error(self, BadBar, {"thing": thing}, height_of, thing)
                check_error(self, BadBar, {"thing": thing}, height_of, bar=thing)

    def test_phases_and_heights(self):
        for floor in FLOORS:
            for bar in NEAR[::5]:
                self.assertEqual(phase_of(bar=bar, floor=floor), phase_in(floor, bar))
                self.assertEqual(reduced(phase_of(floor, bar)), phase_of(floor, bar))
        for bar in NEAR + [(3, 10 ** 60, 7 - 10 ** 59)]:
            self.assertEqual(height_of(bar), height_by(bar))
            self.assertEqual(reduced(height_of(bar)), height_of(bar))

    def test_bars_of_floors(self):
        for floor, beside in zip(FLOORS, BESIDE):
            for bar in NEAR:
                phase = phase_in(beside, bar)
                right = is_below(LEAST, phase) and is_below(phase, ONE)
                self.assertIs(has_bar(floor, bar), right)
            self.assertIs(has_bar(thing=NEAR[0], floor=floor), has_bar(floor, NEAR[0]))

    def test_ties(self):
        for floor in EDGES:
            for r in whole_keys(floor):
                # The phases 1 and 1 - g: one of the two bars with the same number is had.
                a, b, _ = floor.all_keys[r]
                one, other = (r, -b, a + 1 + b), (r, 1 - b, a + b)
                self.assertEqual((phase_of(floor, one), phase_of(floor, other)), (ONE, LEAST))
                self.assertIs(has_bar(floor, one), floor.side[r] == 1)
                self.assertIs(has_bar(floor, other), floor.side[r] == -1)
                self.assertEqual(bar_of(floor, r, number_of(one)), one if floor.side[r] == 1 else other)

    def test_exactly_one_bar_with_each_number(self):
        for floor, beside in zip(FLOORS, BESIDE):
            for j in range(5):
                t_j = floor.all_keys[j]
                before = None
                for number in range(-12, 13):
                    bar = bar_of(number=number, direction=j, floor=floor)
                    self.assertEqual((bar[0], number_of(bar)), (j, number))
                    self.assertIs(has_bar(floor, bar), True)
                    self.assertEqual(bar, bar_of(beside, j, number))
                    for by in (-2, -1, 1, 2):
                        self.assertIs(has_bar(floor, (j, bar[1] + by, bar[2] - by)), False)
                    if not is_whole(t_j):
                        bound = times(minus((number - 1, 0, 1), t_j), (-1, 1, 1))
                        self.assertEqual(bar[1], integer_below(bound) + 1)
                    if before is not None:
                        self.assertTrue(is_below(height_of(before), height_of(bar)))
                    before = bar

    def test_great_numbers(self):
        for floor, beside in list(zip(FLOORS, BESIDE)) + [(far_floor(E), far_floor(E))]:
            for j, number in itertools.product(range(5), FAR_NUMBERS):
                bar = bar_of(floor, j, number)
                self.assertEqual(number_of(bar), number)
                self.assertIs(has_bar(floor, bar), True)
                self.assertIs(has_bar(floor, (j, bar[1] + 1, bar[2] - 1)), False)
                self.assertIs(has_bar(floor, (j, bar[1] - 1, bar[2] + 1)), False)
                self.assertEqual(bar, bar_below(floor, j, height_of(bar)))

    def test_wrong_arguments(self):
        for floor in (E, W):
            for thing in odd_integers() + [5, -1]:
                told = {"thing": thing}
                check_error(self, BadDirection, told, bar_of, floor, thing, "x")
                check_error(self, BadDirection, told, bar_below, floor, thing, "x")
                check_error(self, BadDirection, told, bars_between, floor, thing, "x", "y", most=0)
                check_error(self, BadDirection, told, bar_below, height=ONE, direction=thing, floor=floor)
            for thing in odd_integers():
                check_error(self, BadCount, {"thing": thing}, bar_of, floor, 2, thing)
                check_error(self, BadCount, {"thing": thing}, bar_of, number=thing, direction=0, floor=floor)
            for thing in odd_values() + spoiled((1, 0, 3)) + [(1, 1, 0), (1, 1, -1), 3]:
                told = {"thing": thing}
                check_error(self, BadNumber, told, bar_below, floor, 2, thing)
                check_error(self, BadNumber, told, bar_below, height=thing, direction=0, floor=floor)
                check_error(self, BadNumber, told, bars_between, floor, 2, thing, "x", most=0)
                check_error(self, BadNumber, told, bars_between, floor, 2, ONE, thing, most=0)
                check_error(self, BadNumber, told, bars_between, high="x", low=thing, direction=0, floor=floor)


def is_right(thing):
    """Whether a value that spoiling made is a bar all the same."""
    if type(thing) is not tuple or len(thing) != 3:
        return False
    return all([type(part) is int for part in thing]) and thing[0] in range(5)


class Heights(unittest.TestCase):
    def test_bars_below(self):
        source = random.Random(41)
        for floor in FLOORS:
            for j in range(5):
                bars = [bar_of(floor, j, number) for number in range(-14, 15)]
                moves = [(source.randint(-90, 90), source.randint(-9, 9), 113) for _ in range(6)]
                heights = [plus(height_of(source.choice(bars[3:-3])), move) for move in moves]
                for height in heights + [height_of(bar) for bar in bars[::5]]:
                    right = [bar for bar in bars if not is_below(height, height_of(bar))][-1]
                    self.assertEqual(bar_below(floor, j, height), right)
                    double = tuple([part * 2 for part in height])
                    self.assertEqual(bar_below(height=double, direction=j, floor=floor), right)

    def test_just_below(self):
        little = (1, 0, 10 ** 40)
        for floor in FLOORS:
            for j, number in itertools.product(range(5), (0, 1, 2, -5) + FAR_NUMBERS):
                bar = bar_of(floor, j, number)
                height = height_of(bar)
                self.assertEqual(bar_below(floor, j, height), bar)
                self.assertEqual(bar_below(floor, j, plus(height, little)), bar)
                self.assertEqual(bar_below(floor, j, minus(height, little)), bar_of(floor, j, number - 1))
                self.assertEqual(bars_between(floor, j, height, height), (bar,))
                self.assertEqual(bars_between(floor, j, plus(height, little), plus(height, little)), ())

    def test_great_heights(self):
        for floor in FLOORS:
            for height in (times(power(280), (1, 0, 3)), (10 ** 59, -10 ** 60, 7), power(-300)):
                for j in range(5):
                    bar = bar_below(floor, j, height)
                    self.assertIs(has_bar(floor, bar), True)
                    self.assertFalse(is_below(height, height_of(bar)))
                    self.assertTrue(is_below(height, height_of(bar_of(floor, j, number_of(bar) + 1))))

    def test_bars_between(self):
        source = random.Random(42)
        for floor in FLOORS:
            for j in range(5):
                bars = [bar_of(floor, j, number) for number in range(-14, 15)]
                for _ in range(6):
                    one, other = [plus(height_of(source.choice(bars[2:-2])), (source.randint(-2, 2), 0, 3))
                                  for _ in range(2)]
                    right = [bar for bar in bars if not is_below(height_of(bar), one)
                             and not is_below(other, height_of(bar))]
                    self.assertEqual(bars_between(floor, j, one, other), tuple(right))
                    self.assertEqual(bars_between(low=one, high=other, direction=j, floor=floor), tuple(right))
                    self.assertEqual(bars_between(floor, j, one, other, most=len(right)), tuple(right))
                    if right:
                        most = len(right) - 1
                        check_error(self, TooMany, {"most": most}, bars_between, floor, j, one, other, most=most)
                    if is_below(other, one):
                        self.assertEqual(bars_between(floor, j, one, other, most=0), ())

    def test_how_many_are_allowed(self):
        for floor in (E, W, ALL_WHOLE):
            low, high = height_of(bar_of(floor, 2, 0)), height_of(bar_of(floor, 2, 399))
            self.assertEqual(len(bars_between(floor, 2, low, high)), 400)
            self.assertEqual(len(bars_between(floor, 2, low, height_of(bar_of(floor, 2, 400)), most=401)), 401)
            check_error(self, TooMany, {"most": 400}, bars_between, floor, 2, low, height_of(bar_of(floor, 2, 400)))
            far = (10 ** 60, 0, 1)
            check_error(self, TooMany, {"most": 400}, bars_between, floor, 2, low, far)
            check_error(self, TooMany, {"most": 10 ** 50}, bars_between, floor, 2, low, far, most=10 ** 50)
            self.assertEqual(bars_between(floor, 2, far, low, most=0), ())
            found = bars_between(floor, 2, far, plus(far, (20, 0, 1)))
            self.assertEqual(found, tuple([bar_of(floor, 2, number_of(found[0]) + at) for at in range(len(found))]))
        with self.assertRaises(TypeError):
            bars_between(E, 2, ONE, ONE, 400)


class Tiles(unittest.TestCase):
    def test_examples(self):
        right = ((0, 0, 1), (1, 0, 1), (2, 1, 0), (3, 0, 1), (4, 1, 0))
        self.assertEqual(bars_of(FIRST), right)
        self.assertEqual(along_bar(E, FIRST, 2), ((0, 0, 1, 0, 0), 1, 4))
        self.assertEqual(along_bar(E, FIRST, 2, False), ((0, 1, 1, 0, 0), 0, 4))
        for tile in (along_bar(E, FIRST, 2), along_bar(E, FIRST, 2, False)):
            self.assertEqual(bars_of(tile)[2], (2, 1, 0))

    def test_bars_of_tiles(self):
        feet = [row for row in itertools.product((-1, 0, 1), repeat=5) if sum(row) in (1, 2)][::5]
        for foot in feet + [added(feet[0], FAR_STEP), added(feet[-1], FAR_STEP)]:
            for r, s in itertools.combinations(range(5), 2):
                tile = (foot, r, s)
                self.assertEqual(bars_of(tile=tile), self.by_document(tile))
                for j, bar in enumerate(bars_of(tile)):
                    self.assertTrue(is_bar(bar) and bar[0] == j)
                    heights = [point_of(corner)[j] for corner in corners_of(tile)]
                    above = [is_below(height_of(bar), height) for height in heights]
                    self.assertTrue(True in above and False in above)
                    self.assertFalse(any([are_equal(height_of(bar), height) for height in heights]))
                    crossed = [edge for edge in edges_of(tile) if is_crossed(edge, bar)]
                    self.assertEqual(len(crossed), 2)

    def by_document(self, tile):
        """[7.2], written out once more."""
        foot, r, s = tile
        if (s - r) % 5 not in (1, 2):
            r, s = s, r
        if not is_low(tile):
            top = corners_of(tile)[3]
            opposite = (tuple([1 - part for part in top]), tile[1], tile[2])
            return tuple([(j, 1 - x, 1 - y) for j, x, y in self.by_document(opposite)])
        bars = []
        for j in range(5):
            x, y = foot[j], foot[(j - 1) % 5] + foot[(j + 1) % 5]
            if is_thick(tile) and j in (r, (r + 1) % 5):
                x += 1
            if not is_thick(tile) and j == (r + 1) % 5:
                y += 1
            bars.append((j, x, y))
        return tuple(bars)

    def test_floors_have_the_bars_of_their_tiles(self):
        for floor in FLOORS:
            for tile in near_tiles(floor, 3):
                for j, bar in enumerate(bars_of(tile)):
                    self.assertIs(has_bar(floor, bar), True)
                    heights = sorted_by_size([point_of(corner)[j] for corner in corners_of(tile)])
                    # No other bar of this direction that the floor has lies between the least and the greatest.
                    self.assertEqual(bars_between(floor, j, heights[0], heights[-1]), (bar,))

    def test_opposites(self):
        for tile in near_tiles(E, 3):
            foot, r, s = tile
            opposite = (done((0, 0, 1), corners_of(tile)[3]), r, s)
            self.assertEqual(bars_of(opposite), tuple([(j, 1 - x, 1 - y) for j, x, y in bars_of(tile)]))

    def test_along_bars(self):
        for floor in FLOORS:
            for tile in near_tiles(floor, 2):
                for j in range(5):
                    bar = bars_of(tile)[j]
                    ahead = along_bar(direction=j, tile=tile, floor=floor)
                    behind = along_bar(onward=False, direction=j, tile=tile, floor=floor)
                    self.assertEqual(ahead, along_bar(floor, tile, j, True))
                    self.assertEqual(along_bar(floor, ahead, j, False), tile)
                    self.assertEqual(along_bar(floor, behind, j), tile)
                    places = []
                    for other in (behind, ahead):
                        self.assertTrue(other != tile and has_tile(floor, other))
                        self.assertEqual(bars_of(other)[j], bar)
                        common = [edge for edge in edges_of(other) if edge in edges_of(tile)]
                        self.assertEqual(len(common), 1)
                        self.assertTrue(is_crossed(common[0], bar))
                        places.append(place_on(common[0], bar))
                    self.assertTrue(is_below(places[0], places[1]))

    def test_as_beside(self):
        for floor, beside in zip(FLOORS, BESIDE):
            for tile in near_tiles(floor, 1):
                for j in range(5):
                    for onward in (True, False):
                        self.assertEqual(along_bar(floor, tile, j, onward), along_bar(beside, tile, j, onward))

    def test_rows_of_tiles_on_a_bar(self):
        for floor in FLOORS[::4]:
            for j in range(5):
                row = [(home_of(floor), 0, 1)]
                while len(row) < 40:
                    row.append(along_bar(floor, row[-1], j))
                self.assertEqual(len(set(row)), 40)
                self.assertEqual(set([bars_of(tile)[j] for tile in row]), {bars_of(row[0])[j]})
                # All tiles near by that have the bar stand in this row.
                back = row[0]
                for _ in range(40):
                    back = along_bar(floor, back, j, False)
                    row.append(back)
                for tile in near_tiles(floor, 4):
                    self.assertEqual(tile in row, bars_of(tile)[j] == bars_of(row[0])[j])

    def test_far_tiles(self):
        for floor in FLOORS:
            tile = tile_of(floor, (0, 10 ** 59), (3, -10 ** 60 + 1))
            for j in range(5):
                ahead = along_bar(floor, tile, j)
                self.assertEqual(bars_of(ahead)[j], bars_of(tile)[j])
                self.assertEqual(along_bar(floor, ahead, j, False), tile)
                self.assertIs(has_bar(floor, bars_of(tile)[j]), True)

    def test_wrong_tiles(self):
        foot, r, s = FIRST
        rows = [(foot, s, r), (foot, 1, 1), (foot, 0, 5), ((1, 1, 1, 0, 0), 0, 1), (foot, False, 1), (foot, 0, True),
                ((0, 0, 0, 0, 0), 0, 1), 0]
        for thing in odd_values() + spoiled(FIRST) + rows:
            told = {"thing": thing}
            check_error(self, BadTile, told, bars_of, thing)
            check_error(self, BadTile, told, bars_of, tile=thing)
            check_error(self, BadTile, told, along_bar, E, thing, "x")
            check_error(self, BadTile, told, along_bar, direction=0, tile=thing, floor=W)
        for floor in FLOORS:
            for tile in near_tiles(E, 1):
                if not has_tile(floor, tile):
                    check_error(self, BadTile, {"thing": tile}, along_bar, floor, tile, 9)
        for thing in odd_integers() + [5, -1]:
            check_error(self, BadDirection, {"thing": thing}, along_bar, E, FIRST, thing)
            check_error(self, BadDirection, {"thing": thing}, along_bar, E, FIRST, thing, False)
            check_error(self, BadDirection, {"thing": thing}, along_bar, direction=thing, tile=FIRST, floor=E)


def sorted_by_size(numbers):
    rest = list(numbers)
    found = []
    while rest:
        least = rest[0]
        for number in rest:
            if is_below(number, least):
                least = number
        found.append(least)
        rest.remove(least)
    return found


def ends_of(edge):
    corner, j = edge
    return point_of(corner), point_of(corner[:j] + (corner[j] + 1,) + corner[j + 1:])


def is_crossed(edge, bar):
    height = height_by(bar)
    start, end = ends_of(edge)
    return is_below(start[bar[0]], height) != is_below(end[bar[0]], height)


def place_on(edge, bar):
    """c[j + 1] - c[j - 1] where the edge is crossed, found by halving it again and again."""
    j = bar[0]
    low, high = ends_of(edge)
    if is_below(high[j], low[j]):
        low, high = high, low
    for _ in range(12):
        middle = tuple([times((1, 0, 2), plus(a, b)) for a, b in zip(low, high)])
        if is_below(middle[j], height_by(bar)):
            low = middle
        else:
            high = middle
    return minus(low[(j + 1) % 5], low[j - 1])


class Crossings(unittest.TestCase):
    def test_crossings(self):
        bars = NEAR[::53] + [(2, 10 ** 60, -7), (4, -10 ** 59, 10 ** 60 - 1)]
        for one in bars:
            for other in bars:
                if one[0] == other[0]:
                    check_error(self, BadBar, {"thing": other}, crossing_of, one, other)
                    check_error(self, BadBar, {"thing": other}, crossing_of, other=other, one=one)
                    continue
                point = crossing_of(one=one, other=other)
                self.assertTrue(is_point(point))
                self.assertEqual(point, tuple([reduced(part) for part in point]))
                self.assertEqual((point[one[0]], point[other[0]]), (height_by(one), height_by(other)))
                self.assertEqual(point, crossing_of(other, one))

    def test_wrong_bars(self):
        for thing in [value for value in odd_values() + spoiled((2, 3, -4)) if not is_right(value)] + [(5, 0, 0), 3]:
            told = {"thing": thing}
            check_error(self, BadBar, told, crossing_of, thing, "x")
            check_error(self, BadBar, told, crossing_of, (2, 3, -4), thing)
            check_error(self, BadBar, told, crossing_of, other=(2, 3, -4), one=thing)


def bounds_told(bars):
    """The low and the high bounds of [7.4]."""
    lows, highs = [None] * 5, [None] * 5
    for j, x, y in bars:
        low = minus(minus((y, 0, 1), times((-1, 1, 1), (x, 0, 1))), ONE)
        high = plus(low, G)
        lows[j] = low if lows[j] is None or is_below(lows[j], low) else lows[j]
        highs[j] = high if highs[j] is None or is_below(high, highs[j]) else highs[j]
    return lows, highs


def told_bars():
    """Tuples of told bars of all kinds, of one direction and of several, of one floor and of none."""
    source = random.Random(51)
    found = [((0, 0, 0),), ((4, 10 ** 60, -10 ** 60 + 3),), ((0, 0, 0), (0, 0, 2)), ((0, 0, 0), (1, 0, 0))]
    for floor in FLOORS[::3] + [far_floor(E)]:
        for many in (1, 2, 3, 6, 20, 64):
            bars = [bar_of(floor, source.randrange(5), source.randint(-20, 20)) for _ in range(many)]
            found.append(tuple(sorted(set(bars))))
            direction = source.randrange(5)
            bars = [bar_of(floor, direction, source.randint(-40, 40)) for _ in range(many)]
            found.append(tuple(sorted(set(bars))))
            far = [bar_of(floor, source.randrange(5), source.choice(FAR_NUMBERS) + at) for at in range(min(many, 5))]
            found.append(tuple(sorted(set(far))))
        found.append(tuple([bar_of(floor, 2, number) for number in range(64)]))
    for many in (2, 3, 4, 5):
        for _ in range(60):
            bars = set([(j, source.randint(-1, 1), source.randint(-1, 1))
                        for j in source.sample(range(5), min(many, 5))])
            found.append(tuple(sorted(bars)))
    return found


class ToldBars(unittest.TestCase):
    def test_example(self):
        bars = ((0, 0, 0), (0, 0, 2))
        self.assertIs(bars_hold(bars, ("pair", 0)), True)
        self.assertEqual(judge_bars(bars), ("pair", 0))

    def test_papers(self):
        seen = {}
        for bars in told_bars():
            right = right_papers(*bounds_told(bars))
            paper = judge_bars(bars=bars)
            self.assertIs(bars_hold(bars=bars, thing=paper), True)
            if right:
                self.assertIn(paper, right)
            else:
                self.assertEqual((len(paper), paper[0]), (3, "lives"))
                floor = Floor(paper[1], paper[2])
                self.assertEqual(whole_keys(floor), ())
                self.assertTrue(all([has_bar(floor, bar) for bar in bars]))
            for told in PAPERS:
                self.assertIs(bars_hold(bars, told), told in right)
                if right and right == [told]:
                    seen[told[0]] = True
            for floor in FLOORS[::2]:
                has_all = floor.side == (0, 0, 0, 0, 0) and all([has_bar(floor, bar) for bar in bars])
                self.assertIs(bars_hold(bars, ("lives",) + floor.all_keys[:2]), has_all)
        self.assertEqual(sorted(seen), sorted(KINDS))

    def test_bars_of_one_floor_live(self):
        for floor in FLOORS:
            bars = tuple(sorted([bar_of(floor, j, number) for j in range(5) for number in range(12)]))
            self.assertEqual(judge_bars(bars)[0], "lives")
            paper = ("lives",) + tuple([(a * 3, b * 3, d * 3) for a, b, d in floor.all_keys[:2]])
            self.assertIs(bars_hold(bars, paper), floor not in EDGES)

    def test_papers_of_any_value(self):
        bars = ((0, 0, 0), (0, 0, 2))
        wrong = [("pair", False), ("pair", 0, 0), ("pair",), ["pair", 0], ("pair", 5), ("pair", -5), ([], 0), ({}, 0),
                 (E, 0), ("Pair", 0), ("pair", (0,)), "pair", 0, ("lives", ONE, ONE), ("lives", 0), ("lives", E, W)]
        for thing in odd_values() + spoiled(("pair", 0)) + wrong:
            self.assertIs(bars_hold(bars, thing), False)
        alive = ((0, 0, 0), (1, 0, 0), (3, 1, -1))
        paper = judge_bars(alive)
        self.assertIs(bars_hold(alive, paper), True)
        for thing in odd_values() + spoiled(paper) + wrong + [("lives", ONE, ONE), ("lives",) + W.all_keys[:2]]:
            self.assertIs(bars_hold(alive, thing), False)

    def test_what_are_no_told_bars(self):
        bar = (0, 0, 0)
        many = tuple([(2, k, 0) for k in range(65)])
        self.assertEqual(judge_bars(many[:64])[0], "pair")
        wrong = [bar, (bar, bar), ((1, 0, 0), bar), [bar], ((5, 0, 0),), ((0, 0, True),), ((0, 0),), many, many * 40,
                 (bar, ()), ((True, 0, 0),), 0, many[:64][::-1]]
        for thing in odd_values() + spoiled((bar,)) + wrong:
            told = {"thing": thing}
            check_error(self, BadBars, told, judge_bars, thing)
            check_error(self, BadBars, told, judge_bars, bars=thing)
            check_error(self, BadBars, told, bars_hold, thing, ("pair", 0))
            check_error(self, BadBars, told, bars_hold, thing="x", bars=thing)


if __name__ == "__main__":
    unittest.main()
