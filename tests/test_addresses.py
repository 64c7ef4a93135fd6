"""Part 9: addresses, keys from addresses, and meeting."""

import itertools
import random
import unittest

from nevertwice.addresses import Address, address_of, floor_of_address, judge_meeting, keys_of, letter_at, meeting_holds
from nevertwice.errors import BadCount, BadHalf, BadLetters, TooMany
from nevertwice.fivesheaves import tile_of
from nevertwice.floors import Floor, home_of, sides, whole_keys
from nevertwice.gathering import gathered, gathered_times, round_length
from nevertwice.golden import is_below, minus, plus, power, times
from nevertwice.halves import children_of, climbed, cut_into, has_half, is_half_row, letters_of
from nevertwice.corners import shadow_of
from nevertwice.moving import are_like, move_between, moved
from nevertwice.tiles import round_about
from tests.patch_samples import FAR_STEP, added, far_floor
from tests.samples import (ALL_WHOLE, E, W, all_sided, check_error, edge_floors, odd_integers, odd_values,
                           regular_floors, spoiled)
from tests.test_halves import FIRST, HALVES, fits, halves_near, is_thick, some_letters

EDGES = edge_floors()
REGULAR = regular_floors()[:4]
FLOORS = REGULAR + EDGES
THIN_ONE = ((0, 0, 1, 0, 1), 3, 1)


def letters_at_first(address, many):
    return "".join([letter_at(address, number) for number in range(many)])


def same_letters(one, other):
    """Whether two writings, (beginning, ring) each, tell the same letters without end."""
    many = max(len(one[0]), len(other[0])) + len(one[1]) * len(other[1])
    rows = [beginning + ring * (many // len(ring) + 1) for beginning, ring in (one, other)]
    return rows[0][:many] == rows[1][:many]


def some_address(source, half, longest, ring_longest):
    """A beginning and a ring that fit a half tile."""
    while True:
        beginning = some_letters(is_thick(half), source.randrange(longest + 1), source)
        ring = some_letters(is_thick(climbed(half, beginning)), source.randrange(1, ring_longest + 1), source)
        if fits(is_thick(half), beginning + ring + ring):
            return beginning, ring


class Addresses(unittest.TestCase):
    def test_examples(self):
        self.assertEqual(address_of(E, ((0, 0, 1, 0, 1), 0, 1)), Address(((0, 0, 1, 0, 1), 0, 1), "", "ceda"))
        self.assertEqual(address_of(E, ((0, 0, 1, 0, 0), 1, 4)), Address(((0, 0, 1, 0, 0), 1, 4), "dc", "dace"))
        self.assertEqual(keys_of(Address(FIRST, "", "a")), ((8, -13, 11), (7, 1, 11)))
        middle = Address(FIRST, "", "b")
        self.assertEqual(keys_of(middle), ((1, -1, 1), (1, 0, 1)))
        self.assertEqual(floor_of_address(middle), Floor((1, -1, 1), (1, 0, 1), (-1, -1, 1, -1, 1)))
        check_error(self, BadLetters, {"thing": "d"}, Address, FIRST, "", "d")
        plain = Address(FIRST, "a", "aa")
        self.assertEqual((plain.half, plain.beginning, plain.ring), (FIRST, "", "a"))

    def test_plain_writing(self):
        source = random.Random(4)
        for half in (FIRST, THIN_ONE):
            for _ in range(60):
                beginning, ring = some_address(source, half, 4, 4)
                for one, other in ((beginning, ring), (beginning + ring, ring), (beginning, ring * 3),
                                   (beginning + ring[:1], ring[1:] + ring[:1])):
                    address = Address(half, one, other)
                    self.assertEqual(address, Address(half=half, beginning=beginning, ring=ring))
                    self.assertTrue(same_letters((address.beginning, address.ring), (beginning, ring)))
                self.check_shortest(address)

    def check_shortest(self, address):
        """No shorter ring tells the same letters, and with this ring no shorter beginning."""
        told = (address.beginning, address.ring)
        letters = letters_at_first(address, 60)
        for many in range(1, len(address.ring)):
            for start in range(20):
                self.assertFalse(same_letters(told, (letters[:start], letters[start:start + many])))
        for start in range(len(address.beginning)):
            ring = letters[start:start + len(address.ring)]
            self.assertFalse(same_letters(told, (letters[:start], ring)))

    def test_equal_addresses(self):
        one = Address(FIRST, "", "a")
        self.assertTrue(one == Address(FIRST, "aa", "aaa") and not one != Address(FIRST, "aa", "aaa"))
        for other in (Address(FIRST, "b", "a"), Address(FIRST, "", "b"), Address(((1, 0, 0, 0, 0), 1, 0), "", "a"),
                      Address(((2, -1, 0, 0, 0), 0, 1), "", "a")):
            self.assertTrue(one != other and not one == other)
        for thing in odd_values() + [(FIRST, "", "a")]:
            self.assertFalse(one == thing)
            self.assertTrue(one != thing)

    def test_wrong_values(self):
        for thing in odd_values() + spoiled(FIRST) + [((1, 0, 0, 0, 0), 0, 0), 0]:
            check_error(self, BadHalf, {"thing": thing}, Address, thing, None, None)
            check_error(self, BadHalf, {"thing": thing}, Address, ring="a", beginning="", half=thing)
        wrong = [thing for thing in odd_values() if thing not in ("", "a")]
        for thing in wrong + ["f", "A", "a a", "ad", "cc", "d", "de", "ab\n", ["a"], ("a", "b"), 0]:
            check_error(self, BadLetters, {"thing": thing}, Address, FIRST, thing, None)
            check_error(self, BadLetters, {"thing": thing}, Address, ring="b", beginning=thing, half=FIRST)
            check_error(self, BadLetters, {"thing": thing}, Address, FIRST, "", thing)
            check_error(self, BadLetters, {"thing": thing}, Address, ring=thing, beginning="bb", half=FIRST)
        # Behind c a thin half tile is climbed to, behind d a thick one.
        for thing in ("", "e", "ad", "c", "cdc", "cde"):
            check_error(self, BadLetters, {"thing": thing}, Address, FIRST, "", thing)
            check_error(self, BadLetters, {"thing": thing}, Address, THIN_ONE, "d", thing)
        self.assertEqual(Address(FIRST, "", "cd"), Address(FIRST, "cd", "cdcd"))

    def test_rings_are_written_twice(self):
        for half in (FIRST, THIN_ONE):
            for many in range(1, 5):
                for row in itertools.product("abcde", repeat=many):
                    ring = "".join(row)
                    if fits(is_thick(half), ring + ring):
                        self.assertEqual(letters_at_first(Address(half, "", ring), 2 * many), ring + ring)
                    else:
                        check_error(self, BadLetters, {"thing": ring}, Address, half, "", ring)

    def test_lengths(self):
        many = "bba" * 333 + "a"
        self.assertEqual(len(many), 1000)
        address = Address(FIRST, many, "a" * 999 + "b")
        self.assertEqual((len(address.beginning), len(address.ring)), (1000, 1000))
        check_error(self, BadLetters, {"thing": many + "b"}, Address, FIRST, many + "b", "a")
        check_error(self, BadLetters, {"thing": many + "b"}, Address, FIRST, "", many + "b")
        self.assertEqual(Address(FIRST, "a" * 1000, "a" * 1000), Address(FIRST, "", "a"))
        self.assertEqual(letter_at(address, 10 ** 60), (many + "a" * 999 + "b")[1000 + (10 ** 60 - 1000) % 1000])

    def test_letters_by_number(self):
        address = Address(FIRST, "abced", "abcd")
        for number in range(40):
            letters = address.beginning + address.ring * 40
            self.assertEqual(letter_at(number=number, address=address), letters[number])
        for number in (10 ** 60, 7 * 10 ** 90 + 1):
            place = (number - len(address.beginning)) % len(address.ring)
            self.assertEqual(letter_at(address, number), address.ring[place])
        for thing in odd_integers() + [-1, -10 ** 60]:
            check_error(self, BadCount, {"thing": thing}, letter_at, address, thing)
            check_error(self, BadCount, {"thing": thing}, letter_at, number=thing, address=address)


class InFloors(unittest.TestCase):
    def test_addresses_there_and_back(self):
        for floor in FLOORS + [far_floor(E)]:
            for half in halves_near(floor, 1)[::3]:
                address = address_of(half=half, floor=floor)
                self.assertEqual(address.half, half)
                self.assertEqual(letters_of(floor, half, 60), letters_at_first(address, 60))
                self.assertEqual(keys_of(address=address), floor.all_keys[:2])
                self.assertEqual(floor_of_address(address=address), floor)
                self.assertEqual(address, Address(half, address.beginning, address.ring))

    def test_sides_have_other_addresses(self):
        for floor in EDGES[::5] + [W, ALL_WHOLE]:
            for half in halves_near(floor, 1)[::5]:
                address = address_of(floor, half)
                for other in all_sided(*floor.all_keys[:2]):
                    if other != floor and has_half(other, half):
                        self.assertNotEqual(address_of(other, half), address)

    def test_all_bottoms(self):
        source = random.Random(6)
        for d in range(1, 13):
            for _ in range(4):
                keys = [(source.randrange(-99, 99), source.randrange(-99, 99), d) for _ in range(2)]
                floor = Floor(*keys, source.choice(sides(*keys)))
                half = source.choice(halves_near(floor, 1))
                address = address_of(floor, half)
                self.assertEqual(floor_of_address(address), floor)
                self.assertEqual(letters_of(floor, half, 200), letters_at_first(address, 200))

    def test_far_half_tiles(self):
        for floor in (E, W, ALL_WHOLE, EDGES[3], REGULAR[2]):
            half = tile_of(floor, (1, 10 ** 60 - 1), (3, -10 ** 59))
            address = address_of(floor, half, most=2000)
            self.assertGreater(len(address.beginning), 200)
            self.assertEqual(floor_of_address(address), floor)
            self.assertEqual(letters_of(floor, half, 400), letters_at_first(address, 400))

    def test_very_long_addresses(self):
        floor = E
        for _ in range(3):
            floor = gathered_times(floor, -400)
        half = (home_of(floor), 0, 1)
        address = address_of(floor, half, most=5000)
        self.assertGreater(len(address.beginning), 1000)
        self.assertEqual(floor_of_address(address), floor)
        check_error(self, TooMany, {"most": 1000}, address_of, floor, half)

    def test_too_many(self):
        for floor, half in ((E, ((0, 0, 1, 0, 1), 0, 1)), (E, ((0, 0, 1, 0, 0), 1, 4)),
                            (W, (home_of(W), 0, 1)), (E, tile_of(E, (1, 10 ** 20), (3, 5)))):
            address = address_of(floor, half)
            many = len(address.beginning) + len(address.ring)
            self.assertEqual(address_of(floor, half, most=many), address)
            check_error(self, TooMany, {"most": many - 1}, address_of, floor, half, most=many - 1)
            check_error(self, TooMany, {"most": 0}, address_of, half=half, floor=floor, most=0)
        for thing in odd_values() + [FIRST, ((0, 0, 1, 0, 1), 0, 0), ((0, 0, 1, 0, 1), False, 1), 0]:
            check_error(self, BadHalf, {"thing": thing}, address_of, E, thing, most=0)
            check_error(self, BadHalf, {"thing": thing}, address_of, half=thing, floor=E)

    def test_floors_of_addresses(self):
        source = random.Random(12)
        many_edges = 0
        for half in HALVES[::2] + [FIRST] * 40 + [THIN_ONE] * 40:
            beginning, ring = some_address(source, half, source.choice((0, 2, 9, 60)), 6)
            address = Address(half, beginning, ring)
            floor = floor_of_address(address)
            self.assertEqual(floor.all_keys[:2], keys_of(address))
            self.assertIs(has_half(floor, half), True)
            self.assertEqual(address_of(floor, half), address)
            self.assertEqual(letters_of(floor, half, 80), letters_at_first(address, 80))
            many_edges += len(whole_keys(floor)) > 0
            if len(whole_keys(floor)) > 0:
                right = [other for other in all_sided(*keys_of(address))
                         if has_half(other, half) and address_of(other, half) == address]
                self.assertEqual(right, [floor])
        self.assertGreater(many_edges, 3)

    def test_other_half_tiles_of_such_floors(self):
        source = random.Random(13)
        for _ in range(12):
            beginning, ring = some_address(source, FIRST, 6, 6)
            floor = floor_of_address(Address(FIRST, beginning, ring))
            for half in halves_near(floor, 1)[::9]:
                address = address_of(floor, half)
                self.assertEqual(floor_of_address(address), floor)
            self.assertIsNotNone(move_between(floor, gathered_times(floor, round_length(floor))))

    def test_keys_by_the_sum(self):
        # The sum of [9.5], cut off behind very many letters: what is left out is below g to the power -700.
        for half, beginning, ring in ((FIRST, "", "a"), (FIRST, "abced", "abcd"), (THIN_ONE, "ed", "cdab")):
            address = Address(half, beginning, ring)
            total = (0, 0, 1)
            current = half
            for number in range(720):
                parent = climbed(current, letter_at(address, number))
                part = plus(shadow_of(parent[0])[0], times((0, 1, 1), shadow_of(current[0])[0]))
                scaled = times(part, power(-number - 1))
                total = plus(total, scaled) if number % 2 == 0 else minus(total, scaled)
                current = parent
            gap = minus(minus(shadow_of(half[0])[0], total), keys_of(address)[0])
            size = times(gap, power(700))
            self.assertTrue(is_below(size, (1, 0, 1)) and is_below((-1, 0, 1), size))

    def test_steps_lead_addresses(self):
        for floor in (E, W, REGULAR[1]):
            for half in halves_near(floor, 1)[::7]:
                foot, r, s = half
                far = (added(foot, FAR_STEP), r, s)
                address = address_of(moved(floor, FAR_STEP), far)
                near = address_of(floor, half)
                self.assertEqual((address.beginning, address.ring), (near.beginning, near.ring))
                self.assertEqual(floor_of_address(address), moved(floor, FAR_STEP))


class Meeting(unittest.TestCase):
    def pairs(self, floor):
        near = halves_near(floor, 2)
        source = random.Random(9)
        found = [(near[0], near[0])]
        for _ in range(6):
            found.append((source.choice(near), source.choice(near)))
        return found

    def test_papers(self):
        kinds = set()
        for floor in REGULAR + EDGES[::3] + [ALL_WHOLE]:
            for one, other in self.pairs(floor):
                paper = judge_meeting(other=other, one=one, floor=floor)
                kinds.add(paper[0])
                self.assertIs(meeting_holds(floor, one, other, paper), True)
                if paper[0] == "meet":
                    self.check_meet(floor, one, other, paper[1])
                else:
                    self.check_never(floor, one, other, paper)
        self.assertEqual(kinds, {"meet", "never"})

    def check_meet(self, floor, one, other, many):
        for at in range(many + 3):
            letters = letters_of(floor, one, at), letters_of(floor, other, at)
            self.assertEqual(climbed(one, letters[0]) == climbed(other, letters[1]), at >= many)
            self.assertIs(meeting_holds(floor, one, other, ("meet", at)), at == many)
            for p in range(1, 5):
                self.assertIs(meeting_holds(floor, one, other, ("never", at, p)), False)
        behind = letters_of(floor, one, many + 20)[many:]
        self.assertEqual(behind, letters_of(floor, other, many + 20)[many:])

    def is_never(self, floor, one, other, n, p):
        """Whether this "never" paper is right, by the words of [9.6]."""
        places = []
        for many in (n, n + p):
            places.append((gathered_times(floor, many), climbed(one, letters_of(floor, one, many)),
                           climbed(other, letters_of(floor, other, many))))
        step = move_between(places[0][0], places[1][0])
        if step is None or places[0][1] == places[0][2]:
            return False
        return all([(added(places[0][k][0], step),) + places[0][k][1:] == places[1][k] for k in (1, 2)])

    def check_never(self, floor, one, other, paper):
        _, start, many = paper
        for n in range(max(0, start - 2), start + 3):
            self.assertIs(meeting_holds(floor, one, other, ("meet", n)), False)
            for p in (1, 2, many - 1, many, many + 1, 2 * many, 3 * many - 1):
                if p >= 1 and n + p <= 300:
                    right = self.is_never(floor, one, other, n, p)
                    self.assertIs(meeting_holds(floor, one, other, ("never", n, p)), right)

    def test_very_great_numbers(self):
        floor = ALL_WHOLE
        near = halves_near(floor, 1)
        pairs = [pair for pair in itertools.combinations(near, 2) if judge_meeting(floor, *pair)[0] == "never"]
        one, other = pairs[0]
        _, start, many = judge_meeting(floor, one, other)
        great = 10 ** 89
        for n, p in ((start + great, many), (start, many * great), (start + 7 * great, many * (great + 1))):
            self.assertIs(meeting_holds(thing=("never", n, p), other=other, one=one, floor=floor), True)
            if many > 1:
                self.assertIs(meeting_holds(floor, one, other, ("never", n, p + 1)), False)
        for thing in (("never", -1, many), ("never", start, 0), ("never", start, -many), ("never", start - 1, many),
                      ("never", start, many, 0), ("meet", great), ("never", start), ["never", start, many],
                      ("never", True, many), ("never", start, None), ("Never", start, many)):
            self.assertIs(meeting_holds(floor, one, other, thing), False)

    def test_any_values_as_papers(self):
        half = ((0, 0, 1, 0, 1), 0, 1)
        children = [child for _, child in children_of(half)]
        floor = gathered_times(E, -1)
        self.assertEqual(judge_meeting(floor, children[0], children[1]), ("meet", 1))
        self.assertEqual(judge_meeting(E, half, half), ("meet", 0))
        for thing in odd_values() + spoiled(("meet", 1)) + [("meet", True), ("meet", 0), ("meet", 2), ("meet", 1, 1)]:
            self.assertIs(meeting_holds(floor, children[0], children[1], thing), False)
        self.assertIs(meeting_holds(E, half, half, ("meet", False)), False)
        parts = cut_into(half, 5)
        cut = gathered_times(E, -5)
        for one, other in ((parts[0], parts[-1]), (parts[3], parts[4])):
            self.assertLessEqual(judge_meeting(cut, one, other)[1], 5)

    def test_wrong_half_tiles(self):
        half = ((0, 0, 1, 0, 1), 0, 1)
        for thing in odd_values() + spoiled(half) + [FIRST, 0]:
            if is_half_row(thing) and has_half(E, thing):
                continue
            for call in (judge_meeting, lambda *args, **named: meeting_holds(*args, thing=None, **named)):
                check_error(self, BadHalf, {"thing": thing}, call, E, thing, None)
                check_error(self, BadHalf, {"thing": thing}, call, E, half, thing)
                check_error(self, BadHalf, {"thing": thing}, call, other=thing, one=half, floor=E)


class ThreeTellings(unittest.TestCase):
    def test_floors_with_addresses_that_are_alike_from_some_letter_on(self):
        source = random.Random(21)
        for _ in range(10):
            _, ring = some_address(source, FIRST, 0, 5)
            one = floor_of_address(Address(FIRST, "", ring))
            for beginning in ("a", "bb", "aced"):
                if not fits(True, beginning + ring):
                    continue
                other = floor_of_address(Address(((2, 0, -1, 1, 0), 3, 2), beginning, ring))
                if whole_keys(one) == () and whole_keys(other) == ():
                    many = len(beginning)
                    self.assertIs(are_like(one, gathered_times(other, many)), True)

    def test_gathered_floors_have_the_letters_behind(self):
        for floor in FLOORS[::4]:
            half = (home_of(floor), 0, 1)
            letters = letters_of(floor, half, 30)
            parent = climbed(half, letters[:1])
            self.assertEqual(letters_of(gathered(floor), parent, 29), letters[1:])

    def test_corners_of_a_floor_from_an_address(self):
        address = address_of(REGULAR[2], (home_of(REGULAR[2]), 1, 0))
        floor = floor_of_address(address)
        self.assertEqual(round_about(floor, home_of(floor), 3), round_about(REGULAR[2], home_of(REGULAR[2]), 3))


if __name__ == "__main__":
    unittest.main()
