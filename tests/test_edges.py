"""Part 8: sides beside one another, turned floors and turns."""

import itertools
import unittest

from nevertwice.edges import sides_beside, turned, turns_between, turns_hold, with_side
from nevertwice.errors import BadDirection, NoSuchSide, NoWorm
from nevertwice.floors import Floor, sides, whole_keys
from tests.samples import (ALL_WHOLE, E, W, all_sided, check_error, edge_floors, odd_integers, odd_values,
                           regular_floors, spoiled)

EDGES = edge_floors()
ALL_TEN = all_sided((2, -3, 1), (-1, 1, 1))


def changed_at(side, direction):
    return side[:direction] + (-side[direction],) + side[direction + 1:]


def unlike(one, other):
    return sum([part != against for part, against in zip(one, other)])


def worms_by(floor):
    """The directions of worms by [8.1]."""
    keys = floor.all_keys[:2]
    return [r for r in whole_keys(floor) if changed_at(floor.side, r) in sides(*keys)]


def lead(floor, turns):
    """The side to which turns lead, None if one of them is not the direction of a worm at its time."""
    side = floor.side
    for r in turns:
        if side[r] == 0 or changed_at(side, r) not in sides(*floor.all_keys[:2]):
            return None
        side = changed_at(side, r)
    return side


def same_keys(floor):
    return all_sided(*floor.all_keys[:2])


class Sides(unittest.TestCase):
    def test_examples(self):
        self.assertEqual(sides_beside(W), ((0, (-1, 0, 0, 0, 0)),))
        self.assertEqual(sides_beside(ALL_WHOLE), ((2, (1, -1, -1, 1, -1)), (3, (1, -1, 1, -1, -1))))
        check_error(self, NoWorm, {"direction": 0}, turned, ALL_WHOLE, 0)
        other = Floor((0, 0, 1), (0, 0, 1), (1, 1, -1, 1, -1))
        self.assertEqual(turns_between(ALL_WHOLE, other), (2, 1))

    def test_sides_beside(self):
        for floor in regular_floors():
            self.assertEqual(sides_beside(floor), ())
        for floor in EDGES:
            found = sides_beside(floor=floor)
            self.assertEqual(found, tuple([(r, changed_at(floor.side, r)) for r in worms_by(floor)]))
            self.assertEqual(len(found), 1 if len(whole_keys(floor)) == 1 else 2)
            for r, side in found:
                self.assertIn((r, floor.side), sides_beside(with_side(floor, side)))

    def test_the_ring_of_ten(self):
        for floor in ALL_TEN:
            ring = [floor]
            r, side = sides_beside(floor)[0]
            directions = []
            while True:
                directions.append(r)
                ring.append(with_side(ring[-1], side))
                if ring[-1] == floor:
                    break
                (r, side), = [pair for pair in sides_beside(ring[-1]) if pair[1] != ring[-2].side]
            self.assertEqual(len(ring), 11)
            self.assertEqual(len({one.side for one in ring}), 10)
            self.assertEqual(ring[5].side, tuple([-part for part in floor.side]))
            self.assertEqual(sorted(directions[:5]), [0, 1, 2, 3, 4])

    def test_turned(self):
        for floor in EDGES + regular_floors():
            for r in range(5):
                if r in worms_by(floor):
                    other = turned(direction=r, floor=floor)
                    self.assertEqual(other, Floor(*floor.all_keys[:2], changed_at(floor.side, r)))
                    self.assertEqual(turned(other, r), floor)
                else:
                    check_error(self, NoWorm, {"direction": r}, turned, floor, r)
        for thing in odd_integers() + [5, -1, 10 ** 60]:
            for floor in (E, W, ALL_WHOLE):
                check_error(self, BadDirection, {"thing": thing}, turned, floor, thing)
                check_error(self, BadDirection, {"thing": thing}, turned, direction=thing, floor=floor)

    def test_with_side(self):
        for floor in EDGES[::3] + [E]:
            for other in same_keys(floor):
                self.assertEqual(with_side(floor, other.side), other)
                self.assertEqual(with_side(side=other.side, floor=floor), other)
            right = sides(*floor.all_keys[:2])
            for side in itertools.product((-1, 0, 1), repeat=5):
                if side not in right:
                    check_error(self, NoSuchSide, {"thing": side}, with_side, floor, side)
            for thing in odd_values() + spoiled(right[0]) + [(2, 0, 0, 0, 0), 0]:
                check_error(self, NoSuchSide, {"thing": thing}, with_side, floor, thing)


class Turns(unittest.TestCase):
    def test_turns_between(self):
        for floor in EDGES[::3] + ALL_TEN + [E]:
            for other in same_keys(floor):
                turns = turns_between(other=other, one=floor)
                self.assertEqual(len(turns), unlike(floor.side, other.side))
                self.assertEqual(lead(floor, turns), other.side)
                self.assertIs(turns_hold(floor, other, turns), True)
        self.assertEqual(turns_between(W, W), ())

    def test_all_shortest_turns_hold_and_no_others(self):
        for floor in (ALL_TEN[0], ALL_TEN[7]):
            for other in ALL_TEN:
                many = unlike(floor.side, other.side)
                right = [turns for turns in itertools.product(range(5), repeat=many)
                         if lead(floor, turns) == other.side]
                self.assertEqual(len(right), 2 if many == 5 else 1)
                for turns in right:
                    self.assertIs(turns_hold(floor, other, turns), True)
                for size in range(6):
                    for turns in itertools.product(range(5), repeat=size):
                        if turns not in right:
                            self.assertIs(turns_hold(floor, other, turns), False)
                # Ways that lead there, but are too long: the other way round, and with a turn there and back.
                for turns in right:
                    first = sides_beside(floor)[0][0]
                    self.assertIs(turns_hold(floor, other, (first, first) + turns), False)
                for thing in spoiled(right[0]) + odd_values():
                    if thing not in right:
                        self.assertIs(turns_hold(floor, other, thing), False)

    def test_what_stands_in_the_place_of_directions(self):
        other = turned(W, 0)
        self.assertIs(turns_hold(thing=(0,), other=other, one=W), True)
        for thing in ((False,), [0], (0, 0, 0), (5,), (-5,), (), 0, None, "0", (None,), ((0,),), (10 ** 60,)):
            self.assertIs(turns_hold(W, other, thing), False)
        first = [floor for floor in ALL_TEN if 1 in worms_by(floor)][0]
        self.assertIs(turns_hold(first, turned(first, 1), (1,)), True)
        self.assertIs(turns_hold(first, turned(first, 1), (True,)), False)

    def test_other_keys(self):
        for one, other in itertools.permutations((E, W, ALL_WHOLE, ALL_TEN[0], Floor((1, 0, 3), (1, 0, 2))), 2):
            self.assertIsNone(turns_between(one, other))
            for thing in [(), (0,), (2, 1), ((),)] + odd_values()[:10]:
                self.assertIs(turns_hold(one, other, thing), False)
        for thing in [(), (0,), [], None]:
            self.assertIs(turns_hold(E, Floor((2, 0, 6), (1, 0, 3)), thing), thing == ())


if __name__ == "__main__":
    unittest.main()
