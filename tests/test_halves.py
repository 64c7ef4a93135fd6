"""Part 9: half tiles, their children, parents and letters."""

import itertools
import random
import unittest

from nevertwice.corners import opposite_row
from nevertwice.errors import BadCount, BadHalf, BadLetters, TooMany
from nevertwice.floors import home_of
from nevertwice.fivesheaves import tile_of
from nevertwice.gathering import gathered, gathered_times
from nevertwice.halves import (children_of, climbed, corners_of_half, cut_into, has_half, is_half_row, letters_of,
                               opposite_half, parent_of)
from nevertwice.tiles import opposite_floor, round_about, tiles_at
from tests.patch_samples import far_floor
from tests.samples import (E, W, check_error, edge_floors, long_floors, odd_integers, odd_values, regular_floors,
                           spoiled)

EDGES = edge_floors()
FLOORS = regular_floors() + long_floors() + EDGES
FEET = [(1, 0, 0, 0, 0), (0, 0, 1, 0, 1), (2, -3, 1, 4, -3), (3, -9, 4, 5, -1), (10 ** 60 - 1, 2 - 10 ** 60, 7, -7, 1)]
HALVES = [(foot, r, s) for foot in FEET for r, s in itertools.permutations(range(5), 2)]
THICK = "abc"
THIN = "de"
FIRST = ((1, 0, 0, 0, 0), 0, 1)


def raised(row, j, by=1):
    row = list(row)
    row[j % 5] += by
    return tuple(row)


def is_thick(half):
    return (half[1] - half[2]) % 5 in (1, 4)


def children_by(half):
    """The children by the words of [9.3]."""
    foot, r, s = half
    if sum(foot) == 2:
        top = raised(raised(foot, r), s)
        found = {}
        for letter, (p, q, t) in children_by((opposite_row(top), s, r)).items():
            found[letter] = (opposite_row(raised(raised(p, q), t)), t, q)
        return found
    k = raised(foot, r)
    p = tuple([1 - k[j - 2] - k[(j + 2) % 5] for j in range(5)])
    for d in (1, -1):
        if (s - r - d) % 5 == 0:
            return {"a": (p, (r + 2 * d) % 5, (r + 3 * d) % 5), "b": (raised(p, r + 2 * d), r, s),
                    "d": (p, (r + 2 * d) % 5, r)}
        if (s - r - 2 * d) % 5 == 0:
            return {"c": (p, (r + 2 * d) % 5, (r + 3 * d) % 5),
                    "e": (raised(p, r + 2 * d), (r + 3 * d) % 5, (r + d) % 5)}
    return None


def halves_near(floor, steps):
    found = {}
    for corner in round_about(floor, home_of(floor), steps):
        for foot, r, s in tiles_at(floor, corner):
            found[(foot, r, s)] = True
            found[(foot, s, r)] = True
    return sorted(found)


def fits(thick, letters):
    """Whether letters fit, by the words of [9.3]."""
    for letter in letters:
        if letter not in (THICK if thick else THIN):
            return False
        thick = letter in "abd"
    return True


def some_letters(thick, many, source):
    found = ""
    for _ in range(many):
        found += source.choice(THICK if thick else THIN)
        thick = found[-1] in "abd"
    return found


class Halves(unittest.TestCase):
    def test_examples(self):
        p = (1, 1, -1, -1, 1)
        self.assertEqual(children_of(FIRST), (("a", (p, 2, 3)), ("b", ((1, 1, 0, -1, 1), 0, 1)), ("d", (p, 2, 0))))
        self.assertEqual(climbed(FIRST, "a"), ((0, 1, 0, -1, 1), 3, 4))
        self.assertEqual(letters_of(E, ((0, 0, 1, 0, 1), 0, 1), 6), "cedace")
        self.assertEqual(letters_of(E, ((0, 0, 1, 0, 0), 1, 4), 7), "dcdaced")

    def test_what_is_a_half_tile(self):
        for half in HALVES:
            self.assertIs(is_half_row(thing=half), True)
        for thing in odd_values() + spoiled(((0, 0, 1, 0, 1), 3, 1)) + [
                ((1, 0, 0, 0, 0), 2, 2), ((1, 1, 1, 0, 0), 0, 1), ((0, 0, 0, 0, 0), 0, 1), ((1, 0, 0, 0, 0), 0, 5),
                ((1, 0, 0, 0, 0), -1, 1), ((1, 0, 0, 0, 0), True, 2), ((1, 0, 0, 0, 0), 1), 0]:
            self.assertIs(is_half_row(thing), False)
            self.assertIs(has_half(E, thing), False)
            for call in (corners_of_half, opposite_half, children_of):
                check_error(self, BadHalf, {"thing": thing}, call, thing)
                check_error(self, BadHalf, {"thing": thing}, call, half=thing)
            check_error(self, BadHalf, {"thing": thing}, climbed, thing, None)
            check_error(self, BadHalf, {"thing": thing}, climbed, letters="", half=thing)
            check_error(self, BadHalf, {"thing": thing}, cut_into, thing, None)
            check_error(self, BadHalf, {"thing": thing}, parent_of, E, thing)
            check_error(self, BadHalf, {"thing": thing}, letters_of, E, thing, None)

    def test_halves_of_floors(self):
        for floor in FLOORS[:4] + EDGES[::4]:
            near = halves_near(floor, 1)
            for half in near:
                self.assertIs(has_half(thing=half, floor=floor), True)
                self.assertIs(has_half(opposite_floor(floor), opposite_half(half)), True)
            for foot in {half[0] for half in near}:
                for r, s in itertools.permutations(range(5), 2):
                    tile = (foot, min(r, s), max(r, s))
                    self.assertIs(has_half(floor, (foot, r, s)), tile in tiles_at(floor, foot))
        for thing in ((FIRST, "half"), ((1, 0, 0, 0, 0), 0, 1)):
            check_error(self, BadHalf, {"thing": thing}, parent_of, E, thing)
            check_error(self, BadHalf, {"thing": thing}, letters_of, many=1, half=thing, floor=E)

    def test_corners_and_opposites(self):
        for half in HALVES:
            foot, r, s = half
            corners = corners_of_half(half=half)
            self.assertEqual(corners, (foot, raised(foot, r), raised(raised(foot, r), s)))
            self.assertEqual(opposite_half(half=half), (opposite_row(corners[2]), s, r))
            self.assertEqual(opposite_half(opposite_half(half)), half)


class Letters(unittest.TestCase):
    def test_children(self):
        for half in HALVES:
            found = children_of(half=half)
            self.assertEqual(dict(found), children_by(half))
            self.assertEqual("".join([letter for letter, _ in found]), "abd" if is_thick(half) else "ce")
            for letter, child in found:
                self.assertEqual(is_thick(child), letter in THICK)
                self.assertEqual(climbed(child, letter), half)

    def test_climbing(self):
        for half in HALVES:
            for letter in "abcde":
                if letter in (THICK if is_thick(half) else THIN):
                    self.assertEqual(children_by(climbed(half, letter))[letter], half)
                else:
                    check_error(self, BadLetters, {"thing": letter}, climbed, half, letter)
            self.assertEqual(climbed(letters="", half=half), half)

    def test_letters_that_fit(self):
        for half in (FIRST, ((0, 0, 1, 0, 1), 3, 0)):
            for many in range(5):
                for row in itertools.product("abcde", repeat=many):
                    letters = "".join(row)
                    if not fits(is_thick(half), letters):
                        check_error(self, BadLetters, {"thing": letters}, climbed, half, letters)
                        continue
                    current = half
                    for letter in letters:
                        current = climbed(current, letter)
                    self.assertEqual(climbed(half, letters), current)
            for thing in [value for value in odd_values() if value not in ("", "a")] + [
                    "f", "A", "b ", "b\n", ["a"], ("a",), 0, "x" * 2000]:
                check_error(self, BadLetters, {"thing": thing}, climbed, half, thing)
                check_error(self, BadLetters, {"thing": thing}, climbed, letters=thing, half=half)

    def test_many_letters(self):
        source = random.Random(8)
        for half in HALVES[::3]:
            letters = some_letters(is_thick(half), 401, source)
            current = climbed(half, letters[:400])
            check_error(self, BadLetters, {"thing": letters}, climbed, half, letters)
            for letter in letters[:400][::-1]:
                current = children_by(current)[letter]
            self.assertEqual(current, half)

    def test_parents(self):
        for floor in FLOORS + [far_floor(E)]:
            greater = gathered(floor)
            for half in halves_near(floor, 1)[::2]:
                letter, parent = parent_of(half=half, floor=floor)
                self.assertIs(has_half(greater, parent), True)
                self.assertEqual(children_by(parent)[letter], half)
                for other in THICK if is_thick(half) else THIN:
                    self.assertIs(has_half(greater, climbed(half, other)), other == letter)

    def test_all_children_are_halves_of_the_floor(self):
        for floor in FLOORS[:3] + EDGES[::4]:
            greater = gathered(floor)
            for parent in halves_near(greater, 1):
                for letter, child in children_of(parent):
                    self.assertIs(has_half(floor, child), True)
                    self.assertEqual(parent_of(floor, child), (letter, parent))

    def test_letters_in_floors(self):
        for floor in FLOORS:
            for half in halves_near(floor, 1)[:40:13]:
                letters = letters_of(many=25, half=half, floor=floor)
                self.assertEqual(len(letters), 25)
                greater = gathered_times(floor, 25)
                self.assertIs(has_half(greater, climbed(half, letters)), True)
                letter, parent = parent_of(floor, half)
                self.assertEqual(letters, letter + letters_of(gathered(floor), parent, 24))
                self.assertEqual(letters_of(floor, half, 0), "")
        half = tile_of(E, (1, 10 ** 60 - 1), (3, -10 ** 59))
        letters = letters_of(E, half, 400)
        self.assertEqual(climbed(half, letters), climbed(climbed(half, letters[:150]), letters[150:]))
        self.assertIs(has_half(gathered_times(E, 400), climbed(half, letters)), True)
        half = ((0, 0, 1, 0, 1), 0, 1)
        for thing in odd_integers() + [-1, 401]:
            check_error(self, BadCount, {"thing": thing}, letters_of, E, half, thing)
            check_error(self, BadCount, {"thing": thing}, letters_of, many=thing, half=half, floor=E)


class Cutting(unittest.TestCase):
    def test_cut_into(self):
        for half in HALVES[::7] + [FIRST, ((0, 0, 1, 0, 1), 4, 2)]:
            found = {half}
            for many in range(6):
                parts = cut_into(many=many, half=half)
                self.assertEqual(list(parts), sorted(found))
                self.assertEqual(cut_into(half, many, most=len(parts)), parts)
                check_error(self, TooMany, {"most": len(parts) - 1}, cut_into, half, many, most=len(parts) - 1)
                found = {child for part in found for child in children_by(part).values()}

    def test_the_parts_are_halves_of_the_cut_floor(self):
        for floor in (E, W):
            half = halves_near(floor, 1)[0]
            for part in cut_into(half, 4):
                self.assertIs(has_half(gathered_times(floor, -4), part), True)

    def test_many_cuttings(self):
        # A thick half tile becomes 2, 5, 13 .. thick ones and 1, 3, 8 .. thin ones.
        self.assertEqual([len(cut_into(FIRST, many)) for many in range(8)], [1, 3, 8, 21, 55, 144, 377, 987])
        self.assertEqual(len(cut_into(((1, 0, 0, 0, 0), 0, 2), 8)), 1597)
        self.assertEqual(len(set(cut_into(FIRST, 12, most=121393))), 121393)
        check_error(self, TooMany, {"most": 121392}, cut_into, FIRST, 12, most=121392)
        check_error(self, TooMany, {"most": 4096}, cut_into, FIRST, 9)
        check_error(self, TooMany, {"most": 0}, cut_into, FIRST, 0, most=0)
        for thing in odd_integers() + [-1, 13, 10 ** 60]:
            check_error(self, BadCount, {"thing": thing}, cut_into, FIRST, thing)
            check_error(self, BadCount, {"thing": thing}, cut_into, many=thing, half=FIRST, most=0)


if __name__ == "__main__":
    unittest.main()
