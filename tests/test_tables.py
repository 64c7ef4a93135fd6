"""Part 10: tiles laid by hand."""

import itertools
import random
import unittest

from nevertwice.corners import is_corner_row, point_of
from nevertwice.errors import (BadEdge, BadText, BadTile, Dead, FloorError, Full, Laid, NothingToRedo, NothingToUndo,
                               NotLaid, Overlaps, Unfit)
from nevertwice.floors import Floor, has_tile, whole_keys
from nevertwice.golden import is_below, minus
from nevertwice.patches import does_live, judge_patch, patch_holds
from nevertwice.tables import Table, do_overlap
from nevertwice.tiles import corners_of, does_fit, edges_of, is_left, is_tile_row
from tests.patch_samples import FAR_STEP, FOUR_TILES, KINDS, added, near_tiles
from tests.samples import ALL_WHOLE, E, W, check_error, odd_values, regular_floors, spoiled

A = ((0, 0, 1, 0, 0), 1, 4)
NOT_TILES = odd_values() + [((1, 0, 0, 0, 0), 1, 0), ((1, 0, 0, 0, 0), 2, 2), ((1, 1, 1, 0, 0), 0, 1),
                            ((0, 0, 0, 0, 0), 0, 1), ((1, 0, 0, 0, 0), False, 1), ((1, 0, 0, 0, 0), 0, 5), 0]
PAPERS = [(kind, r) for kind in KINDS for r in range(5)]


def all_tiles_near(reach):
    """All tiles, of whichever floor, with small feet."""
    feet = [row for row in itertools.product(range(-reach, reach + 1), repeat=5) if sum(row) in (1, 2)]
    return [(foot, r, s) for foot in feet for r, s in itertools.combinations(range(5), 2)]


def far_tile(tile):
    return (added(tile[0], FAR_STEP),) + tile[1:]


def table_of(tiles):
    table = Table()
    for tile in tiles:
        table.lay(tile)
    return table


def overlap_by(one, other):
    """By the words of [10.1]."""
    if one == other:
        return True
    for d in one[1:] + other[1:]:
        sides = []
        for tile in (one, other):
            points = [point_of(corner) for corner in corners_of(tile)]
            sides.append([minus(point[(d + 1) % 5], point[d - 1]) for point in points])
        for less, more in (sides, sides[::-1]):
            if not any([is_below(b, a) for a in less for b in more]):
                return False
    return True


def do_meet_badly(one, other):
    return len(set(edges_of(one)) & set(edges_of(other))) > 0 and not does_fit(one, other)


def open_edges_by(tiles):
    owners = {}
    for tile in tiles:
        for edge in edges_of(tile):
            owners.setdefault(edge, []).append(tile)
    return tuple(sorted([(edge, not is_left(found[0], edge)) for edge, found in owners.items() if len(found) == 1]))


def fitting_by(tiles, edge, is_on_left):
    """All fitting choices, by the words of [10.5], among all tiles with this edge."""
    corner, j = edge
    found = []
    for s in range(5):
        for by in (0, -1):
            foot = list(corner)
            foot[s] += by
            tile = (tuple(foot), min(j, s), max(j, s))
            if is_tile_row(tile) and edge in edges_of(tile) and is_left(tile, edge) == is_on_left:
                if not any([overlap_by(tile, other) or do_meet_badly(tile, other) for other in tiles]):
                    found.append(tile)
    return tuple(sorted(found))


def patch_by(tiles):
    return tuple(sorted({corner for tile in tiles for corner in corners_of(tile)}))


def forced_by(table):
    found = set()
    for edge, is_on_left in open_edges_by(table.tiles()):
        living = [tile for tile in fitting_by(table.tiles(), edge, is_on_left)
                  if does_live(patch_by(table.tiles() + (tile,)))]
        if len(living) == 1:
            found.add(living[0])
    return tuple(sorted(found))


def some_tables():
    """Living tables and dead ones, in floors and made by fitting choices alone."""
    source = random.Random(14)
    found = [Table(), table_of([A]), table_of(FOUR_TILES[:3]), table_of(FOUR_TILES), table_of([far_tile(A)])]
    for floor in (E, W, ALL_WHOLE, regular_floors()[2]):
        tiles = near_tiles(floor, 2)
        for many in (2, 4, 7):
            found.append(table_of(source.sample(tiles, many)))
    for _ in range(12):
        table = table_of([source.choice(near_tiles(E, 1))])
        for _ in range(source.randrange(3, 9)):
            edge, is_on_left = source.choice(table.open_edges())
            choices = fitting_by(table.tiles(), edge, is_on_left)
            if choices:
                table.lay(source.choice(choices))
        found.append(table)
    return found


TABLES = some_tables()
DEAD = [table for table in TABLES if not table.does_live()]


class Overlapping(unittest.TestCase):
    def test_examples(self):
        self.assertIs(do_overlap(A, ((0, 0, 1, 0, 0), 0, 1)), True)

    def test_tiles_of_a_floor_do_not_overlap(self):
        for floor in (E, W, ALL_WHOLE):
            for one, other in itertools.combinations(near_tiles(floor, 1), 2):
                self.assertIs(do_overlap(one, other), False)
                self.assertIs(do_overlap(far_tile(other), far_tile(one)), False)

    def test_any_tiles(self):
        source = random.Random(2)
        tiles = all_tiles_near(1)
        many = 0
        for _ in range(1500):
            one, other = source.sample(tiles, 2)
            right = overlap_by(one, other)
            many += right
            self.assertIs(do_overlap(one=one, other=other), right)
            self.assertIs(do_overlap(other, one), right)
        self.assertGreater(many, 100)
        for tile in tiles[::9]:
            self.assertIs(do_overlap(tile, tile), True)
            self.assertIs(do_overlap(tile, far_tile(tile)), False)
            self.assertIs(do_overlap(far_tile(tile), far_tile(tile)), True)
            far = (added(tile[0], (10 ** 60, 0, 0, 0, -10 ** 60)),) + tile[1:]
            self.assertIs(do_overlap(far, tile), overlap_by(far, tile))

    def test_tiles_that_have_only_a_part_of_an_edge_or_a_corner_in_common(self):
        around = [((1, 0, 0, 0, 0), r, s) for r, s in itertools.combinations(range(5), 2)]
        for one, other in itertools.combinations(around, 2):
            self.assertIs(do_overlap(one, other), overlap_by(one, other))

    def test_wrong_tiles(self):
        for thing in NOT_TILES + spoiled(A):
            check_error(self, BadTile, {"thing": thing}, do_overlap, thing, None)
            check_error(self, BadTile, {"thing": thing}, do_overlap, A, thing)
            check_error(self, BadTile, {"thing": thing}, do_overlap, other=thing, one=A)


class Laying(unittest.TestCase):
    def test_tiles_in_order(self):
        table = Table()
        self.assertEqual((table.tiles(), table.patch(), str(table)), ((), (), "table"))
        for many, tile in enumerate(FOUR_TILES):
            self.assertIsNone(table.lay(tile))
            self.assertEqual(table.tiles(), FOUR_TILES[:many + 1])
            self.assertEqual(table.patch(), patch_by(FOUR_TILES[:many + 1]))
        self.assertIsNone(table.take(tile=FOUR_TILES[1]))
        self.assertEqual(table.tiles(), FOUR_TILES[:1] + FOUR_TILES[2:])
        table.lay(tile=FOUR_TILES[1])
        self.assertEqual(table.tiles(), FOUR_TILES[:1] + FOUR_TILES[2:] + FOUR_TILES[1:2])

    def test_errors_in_their_order(self):
        table = table_of([A])
        for thing in NOT_TILES + spoiled(A):
            check_error(self, BadTile, {"thing": thing}, table.lay, thing)
            check_error(self, BadTile, {"thing": thing}, table.lay, tile=thing)
            check_error(self, NotLaid, {"thing": thing}, table.take, thing)
            check_error(self, NotLaid, {"thing": thing}, table.take, tile=thing)
        check_error(self, Laid, {"thing": A}, table.lay, A)
        check_error(self, NotLaid, {"thing": FOUR_TILES[0]}, table.take, FOUR_TILES[0])
        check_error(self, Overlaps, {"other": A}, table.lay, ((0, 0, 1, 0, 0), 0, 1))
        self.assertEqual(table.tiles(), (A,))

    def test_all_that_may_be_laid(self):
        for table in TABLES[2:16:3]:
            tiles = table.tiles()
            for tile in all_tiles_near(1)[::3]:
                copied = table.copy()
                try:
                    copied.lay(tile)
                except FloorError as error:
                    self.check_refused(tiles, tile, error)
                    self.assertEqual(copied.tiles(), tiles)
                    continue
                self.assertEqual(copied.tiles(), tiles + (tile,))
                self.assertFalse(any([overlap_by(tile, other) or do_meet_badly(tile, other) for other in tiles]))

    def check_refused(self, tiles, tile, error):
        overlapped = [other for other in tiles if overlap_by(tile, other)]
        if isinstance(error, Laid):
            self.assertIn(tile, tiles)
        elif isinstance(error, Overlaps):
            self.assertNotIn(tile, tiles)
            self.assertEqual(error.other, overlapped[0])
        else:
            self.assertIsInstance(error, Unfit)
            self.assertEqual(overlapped, [])
            self.assertEqual(error.other, [other for other in tiles if do_meet_badly(tile, other)][0])

    def test_sixteen_tiles(self):
        tiles = near_tiles(E, 2)
        table = table_of(tiles[:16])
        check_error(self, Laid, {"thing": tiles[3]}, table.lay, tiles[3])
        check_error(self, Full, {}, table.lay, tiles[16])
        # It would overlap, too, but there is no room at all.
        over = [tile for tile in all_tiles_near(1) if tile not in tiles and overlap_by(tile, tiles[0])][0]
        check_error(self, Full, {}, table.lay, over)
        check_error(self, BadTile, {"thing": None}, table.lay, None)
        self.assertEqual(table.tiles(), tuple(tiles[:16]))
        self.assertEqual(table.grow(), ())
        # Choices do not mind.
        for edge, is_on_left in table.open_edges()[:6]:
            self.assertEqual(table.fitting(edge), fitting_by(table.tiles(), edge, is_on_left))
            self.assertGreaterEqual(len(table.living(edge)), 1)
        table.take(tiles[0])
        self.assertEqual(len(table.tiles()), 15)
        self.assertIn(len(table.grow()), (0, 1))

    def test_sixty_four_corners(self):
        tiles = near_tiles(E, 12)
        apart = []
        for tile in tiles:
            if not any([set(corners_of(tile)) & set(corners_of(other)) for other in apart]):
                apart.append(tile)
        table = table_of(apart[:16])
        self.assertEqual(len(table.patch()), 64)
        self.assertIs(table.does_live(), True)
        self.assertEqual(table.judge()[0], "lives")
        edge, is_on_left = table.open_edges()[0]
        self.assertEqual(table.fitting(edge), fitting_by(table.tiles(), edge, is_on_left))
        living = table.living(edge)
        self.assertTrue(any([has_tile(E, tile) for tile in living]))
        self.assertLessEqual(set(table.forced()), set(near_tiles(E, 14)))


class Living(unittest.TestCase):
    def test_living_and_dead_ones(self):
        self.assertGreater(len(DEAD), 4)
        for table in TABLES:
            tiles = table.tiles()
            if not tiles:
                continue
            self.assertIs(table.does_live(), does_live(patch_by(tiles)))
            paper = table.judge()
            self.assertIs(patch_holds(patch_by(tiles), paper), True)
            self.assertEqual(paper[0] == "lives", table.does_live())
            m = [many for many in range(1, len(tiles) + 1) if not does_live(patch_by(tiles[:many]))]
            self.assertEqual(table.died(), m[0] if m else None)

    def test_the_example(self):
        table = table_of([A])
        edge = ((0, 0, 1, 0, 1), 1)
        self.assertEqual(table.open_edges(), ((((0, 0, 1, 0, 0), 1), True), (((0, 0, 1, 0, 0), 4), False),
                                              (edge, False), (((0, 1, 1, 0, 0), 4), True)))
        self.assertEqual(table.fitting(edge), (((0, 0, 1, -1, 1), 1, 3), ((0, 0, 1, 0, 1), 0, 1)))
        self.assertEqual(table.living(edge), (((0, 0, 1, 0, 1), 0, 1),))
        self.assertEqual(table.forced(), (((0, 0, 1, 0, 1), 0, 1), ((0, 1, 1, 0, 0), 0, 4)))
        other = table.copy()
        self.assertEqual(other.grow(), (((0, 0, 1, 0, 1), 0, 1), ((0, 1, 1, 0, 0), 0, 4)))
        self.assertEqual(other.tiles(), (A, ((0, 0, 1, 0, 1), 0, 1), ((0, 1, 1, 0, 0), 0, 4)))
        table.lay(((0, 0, 1, -1, 1), 1, 3))
        self.assertIs(table.does_live(), False)
        self.assertIs(patch_holds(table.patch(), ("pair", 3)), True)
        self.assertEqual(table.core(), (((0, 0, 1, -1, 1), 1, 3), A))

    def test_the_four_tiles(self):
        table = table_of(FOUR_TILES)
        self.assertEqual(table.died(), 4)
        self.assertEqual(table.judge(), ("highgap", 3))
        self.assertEqual([paper for paper in PAPERS if patch_holds(table.patch(), paper)], [("highgap", 3)])
        self.assertIs(table.core_holds((FOUR_TILES[3], FOUR_TILES[2], FOUR_TILES[0])), True)

    def test_without_tiles(self):
        table = Table()
        self.assertIs(table.does_live(), True)
        self.assertIsNone(table.died())
        self.assertIsNone(table.core())
        word, one, other = table.judge()
        self.assertEqual(word, "lives")
        self.assertEqual(whole_keys(Floor(one, other)), ())
        self.assertEqual((table.open_edges(), table.forced(), table.grow()), ((), (), ()))
        self.assertIs(table.core_holds(()), False)

    def test_cores(self):
        for table in TABLES:
            core = table.core()
            if table.does_live():
                self.assertIsNone(core)
            else:
                self.assertIn(len(core), (2, 3))
            right = []
            tiles = sorted(table.tiles())
            for many in range(4):
                for part in itertools.combinations(tiles, many):
                    is_core = self.is_core(part)
                    self.assertIs(table.core_holds(part), is_core)
                    self.assertIs(table.core_holds(thing=part[::-1]), is_core and many < 2)
                    if is_core:
                        right.append(part)
            if core is not None:
                self.assertIn(core, right)
                for thing in spoiled(core) + odd_values() + [core + core, tuple([far_tile(tile) for tile in core])]:
                    self.assertIs(table.core_holds(thing), False)
                if len(tiles) > len(core):
                    self.assertIs(table.core_holds(tuple(tiles)), False)

    def is_core(self, tiles):
        if not tiles or does_live(patch_by(tiles)):
            return False
        rests = [tiles[:at] + tiles[at + 1:] for at in range(len(tiles))]
        return all([not rest or does_live(patch_by(rest)) for rest in rests])


class Choices(unittest.TestCase):
    def test_open_edges(self):
        for table in TABLES:
            self.assertEqual(table.open_edges(), open_edges_by(table.tiles()))

    def test_choices(self):
        for table in TABLES:
            tiles = table.tiles()
            for edge, is_on_left in table.open_edges():
                fitting = fitting_by(tiles, edge, is_on_left)
                self.assertEqual(table.fitting(edge=edge), fitting)
                living = tuple([tile for tile in fitting if does_live(patch_by(tiles + (tile,)))])
                self.assertEqual(table.living(edge=edge), living)
                self.assertEqual(len(living) > 0, table.does_live())

    def test_a_floor_has_a_living_choice_at_each_open_edge(self):
        for floor in (E, ALL_WHOLE):
            table = table_of(near_tiles(floor, 1)[:9])
            for edge, _ in table.open_edges():
                self.assertTrue(any([has_tile(floor, tile) for tile in table.living(edge)]))
            for tile in table.forced():
                self.assertIs(has_tile(floor, tile), True)

    def test_what_is_no_open_edge(self):
        table = table_of(near_tiles(E, 1)[:4])
        edges = [edge for edge, _ in table.open_edges()]
        within = [edge for tile in table.tiles() for edge in edges_of(tile) if edge not in edges]
        self.assertGreater(len(within), 0)
        near = [(row, j) for row in table.patch() for j in range(5) if (row, j) not in edges]
        wrong = odd_values() + spoiled(edges[0]) + within + near + [table.open_edges()[0], (edges[0][0], True), 0]
        for thing in wrong:
            if isinstance(thing, tuple) and thing in edges and is_corner_row(thing[0]) and thing[1] is not True:
                continue
            check_error(self, BadEdge, {"thing": thing}, table.fitting, thing)
            check_error(self, BadEdge, {"thing": thing}, table.living, edge=thing)
        check_error(self, BadEdge, {"thing": edges[0]}, Table().living, edges[0])

    def test_forced(self):
        for table in TABLES:
            if table.does_live():
                self.assertEqual(table.forced(), forced_by(table))
            else:
                for call in (table.forced, table.grow):
                    before = table.tiles()
                    with self.assertRaises(Dead) as caught:
                        call()
                    self.assertIs(patch_holds(table.patch(), caught.exception.paper), True)
                    self.assertNotEqual(caught.exception.paper[0], "lives")
                    self.assertEqual(table.tiles(), before)

    def test_growing(self):
        many = set()
        living = [table for table in TABLES if table.does_live()]
        for place, table in enumerate(living):
            slow = table.copy()
            laid = []
            # The forced tiles of each step, for some tables worked out here.
            find = forced_by if place in (1, 2, 5) else Table.forced
            forced = find(slow)
            while len(slow.tiles()) < 16 and forced:
                laid.append(forced[0])
                slow.lay(laid[-1])
                forced = find(slow)
            before = table.tiles()
            copied = table.copy()
            self.assertEqual(copied.grow(), tuple(laid))
            self.assertEqual(copied.tiles(), before + tuple(laid))
            self.assertEqual(copied, slow)
            self.assertIs(copied.does_live(), True)
            copied.undo()
            self.assertEqual(copied.tiles(), before)
            copied.redo()
            self.assertEqual(copied, slow)
            many.add(len(laid))
        self.assertGreater(len(many), 3)


class Deeds(unittest.TestCase):
    def test_undone_and_done_again(self):
        table = Table()
        states = [table.tiles()]
        deeds = [lambda: table.lay(A), lambda: table.lay(((0, 0, 1, 0, 1), 0, 1)), lambda: table.grow(),
                 lambda: table.take(A), lambda: table.grow(), lambda: table.take(((0, 0, 1, 0, 1), 0, 1)),
                 lambda: table.grow(), lambda: table.take(A)]
        for deed in deeds:
            deed()
            states.append(table.tiles())
        for state in states[-2::-1]:
            self.assertIsNone(table.undo())
            self.assertEqual(table.tiles(), state)
        check_error(self, NothingToUndo, {}, table.undo)
        for state in states[1:]:
            self.assertIsNone(table.redo())
            self.assertEqual(table.tiles(), state)
        check_error(self, NothingToRedo, {}, table.redo)

    def test_taking_is_undone_at_its_place(self):
        table = table_of(FOUR_TILES)
        table.take(FOUR_TILES[1])
        table.undo()
        self.assertEqual(table.tiles(), FOUR_TILES)
        table.redo()
        self.assertEqual(table.tiles(), FOUR_TILES[:1] + FOUR_TILES[2:])

    def test_other_deeds_in_between(self):
        for deed in (lambda table: table.lay(FOUR_TILES[1]), lambda table: table.take(FOUR_TILES[0]),
                     lambda table: table.grow()):
            table = table_of(FOUR_TILES[:2])
            table.undo()
            deed(table)
            check_error(self, NothingToRedo, {}, table.redo)
        # Growing that lays no tile is a deed, too.
        table = Table()
        self.assertEqual(table.grow(), ())
        table.lay(A)
        table.undo()
        self.assertEqual(table.grow(), ())
        check_error(self, NothingToRedo, {}, table.redo)
        table.undo()
        table.undo()
        check_error(self, NothingToUndo, {}, table.undo)

    def test_what_fails_or_only_asks_is_no_deed(self):
        table = table_of(FOUR_TILES)
        table.undo()
        for call in (lambda: table.lay(None), lambda: table.lay(FOUR_TILES[0]), lambda: table.take(A),
                     lambda: table.lay(((0, 0, 1, 0, 0), 1, 3))):
            with self.assertRaises(FloorError):
                call()
        str(table)
        table.judge()
        table.core()
        table.forced()
        table.open_edges()
        table.copy().lay(FOUR_TILES[3])
        table.redo()
        self.assertEqual(table.tiles(), FOUR_TILES)
        for call in (table.grow, table.forced):
            with self.assertRaises(Dead):
                call()
        table.undo()
        self.assertEqual(table.tiles(), FOUR_TILES[:3])

    def test_copies_go_their_own_way(self):
        table = table_of(FOUR_TILES)
        table.undo()
        other = table.copy()
        self.assertEqual(other, table)
        other.redo()
        self.assertNotEqual(other, table)
        self.assertEqual(table.tiles(), FOUR_TILES[:3])
        table.redo()
        self.assertEqual(other, table)
        table.undo()
        table.undo()
        other.undo()
        self.assertEqual(other.tiles(), FOUR_TILES[:3])
        other.take(FOUR_TILES[0])
        check_error(self, NothingToRedo, {}, other.redo)
        table.redo()
        self.assertEqual(table.tiles(), FOUR_TILES[:3])
        for _ in range(4):
            other.undo()
        check_error(self, NothingToUndo, {}, other.undo)

    def test_equal_tables(self):
        one = table_of(FOUR_TILES)
        self.assertTrue(one == table_of(FOUR_TILES) and not one != table_of(FOUR_TILES))
        self.assertTrue(one != table_of(FOUR_TILES[:3]) and one != Table())
        turned = table_of(FOUR_TILES[1:] + FOUR_TILES[:1])
        self.assertTrue(one != turned and not one == turned)
        for thing in odd_values() + [FOUR_TILES, str(one)]:
            self.assertFalse(one == thing)
            self.assertTrue(one != thing)


class Texts(unittest.TestCase):
    def test_texts(self):
        self.assertEqual(str(table_of([A])), "table\ntile 0 0 1 0 0 1 4")
        for table in TABLES:
            lines = ["table"] + ["tile " + " ".join(map(str, foot + (r, s))) for foot, r, s in table.tiles()]
            self.assertEqual(str(table), "\n".join(lines))
            self.assertEqual(Table.read(text=str(table)), table)
            self.assertEqual(Table.read(str(table)).tiles(), table.tiles())
            check_error(self, NothingToUndo, {}, Table.read(str(table)).undo)
            check_error(self, NothingToRedo, {}, Table.read(str(table)).redo)
        far = table_of([far_tile(tile) for tile in FOUR_TILES])
        self.assertEqual(Table.read(str(far)), far)

    def test_wrong_texts(self):
        for thing in odd_values():
            line = 1 if isinstance(thing, str) else 0
            check_error(self, BadText, {"line": line}, Table.read, thing)
            check_error(self, BadText, {"line": line}, Table.read, text=thing)
        good = "table\ntile 0 0 1 0 0 2 4"
        for text, line in (("", 1), ("Table", 1), ("table ", 1), (" table", 1), ("table\n", 2), ("\ntable", 1),
                           (good + "\n", 3), (good + "\n\n", 3), (good + " ", 2), (good.replace("tile", "tiles"), 2),
                           (good.replace("2 4", "4 2"), 2), (good.replace("2 4", "2 5"), 2),
                           (good.replace("2 4", "2 -1"), 2), (good.replace("2 4", "02 4"), 2),
                           (good.replace("tile 0", "tile -0"), 2), (good.replace("tile 0", "tile +0"), 2),
                           (good.replace("tile 0", "tile  0"), 2), (good.replace("1", "3"), 2),
                           (good.replace("1", "1.0"), 2), (good.replace("1", "1_0"), 2),
                           (good.replace("2 4", "2"), 2), (good.replace("2 4", "2 4 4"), 2),
                           (good + "\ntile 0 0 1 0 0 2 4", 3), (good + "\ntile 0 0 1 0 0 3 4", 3),
                           (good + "\ntable", 3), ("tile 0 0 1 0 0 2 4", 1)):
            check_error(self, BadText, {"line": line}, Table.read, text)
        # Tiles that do not fit, and a seventeenth one.
        one, other = self.two_that_do_not_fit()
        text = str(table_of([one])) + str(table_of([other])).removeprefix("table")
        check_error(self, BadText, {"line": 3}, Table.read, text)
        tiles = near_tiles(E, 2)[:17]
        full = "table" + "".join([str(table_of([tile])).removeprefix("table") for tile in tiles])
        check_error(self, BadText, {"line": 18}, Table.read, full)
        self.assertEqual(Table.read("\n".join(full.split("\n")[:17])), table_of(tiles[:16]))

    def two_that_do_not_fit(self):
        for tile in all_tiles_near(1):
            if do_meet_badly(A, tile) and not overlap_by(A, tile):
                table = table_of([A])
                check_error(self, Unfit, {"other": A}, table.lay, tile)
                return A, tile
        return None

    def test_papers_of_a_table_are_those_of_its_patch(self):
        for table in TABLES[1:8]:
            self.assertEqual(table.judge()[0], judge_patch(table.patch())[0])


if __name__ == "__main__":
    unittest.main()
