"""Part 7: rows of gaps, their papers, how soon they come again and how long they agree."""

import itertools
import random
import unittest

from nevertwice.barlines import bar_of, has_bar, phase_of
from nevertwice.errors import BadCount, BadDirection, BadGaps, BadPhase, Dead, TooMany
from nevertwice.floors import whole_keys
from nevertwice.gaprows import (agreement, do_stand, gaps_from, gaps_hold, gaps_of, gaps_of_length, is_gaps, is_phase,
                                judge_gaps, letters_ahead, letters_behind, longs_between, next_place, share_of_gaps,
                                spread, surely_within)
from nevertwice.gathering import gathered
from nevertwice.golden import are_equal, integer_below, is_below, is_whole, minus, plus, reduced, sign, times
from tests.samples import (ALL_WHOLE, E, W, check_error, edge_floors, long_floors, nearly, odd_integers, odd_values,
                           regular_floors, spoiled)

EDGES = edge_floors()
FLOORS = regular_floors() + long_floors() + EDGES
G = (0, 1, 1)
ONE = (1, 0, 1)
LEAST = (1, -1, 1)
BEHIND_SHORT = (2, -1, 1)
FAR_NUMBERS = (10 ** 60 - 1, -10 ** 59 - 7, 123456789)
SHORT_ROWS = ["".join(row) for many in range(8) for row in itertools.product("LS", repeat=many)]
NO_GAPS = [thing for thing in odd_values() if thing != ""] + ["LSl", "L S", "LS\n", ["L"], ("L", "S"), "LST", "S L", 0]
LONG_ROW = gaps_of(E, 0, 0, 400)


def letters_by(floor, direction, number, many):
    """Gaps read off the x of the bars."""
    found = []
    for at in range(number, number + many):
        found.append("L" if bar_of(floor, direction, at + 1)[1] > bar_of(floor, direction, at)[1] else "S")
    return "".join(found)


def offsets(gaps):
    """The numbers g l(i) - i."""
    return [(-at, gaps[:at].count("L"), 1) for at in range(len(gaps) + 1)]


def right_stretches(gaps):
    found = []
    least_gap = minus((0, 0, 1), G)
    numbers = offsets(gaps)
    for i, j in itertools.combinations(range(len(gaps) + 1), 2):
        way = minus(numbers[j], numbers[i])
        if not is_below(way, G) or not is_below(least_gap, way):
            found.append(("stretch", i, j))
    return found


def phases_before(gaps):
    """The greatest of the first numbers and the least of the second ones."""
    low = None
    high = None
    for number in offsets(gaps):
        if low is None or is_below(low, plus(LEAST, number)):
            low = plus(LEAST, number)
        if high is None or is_below(plus(ONE, number), high):
            high = plus(ONE, number)
    return low, high


def rows_of_floors(length):
    """All gaps of a length that follow some of many bars."""
    found = set()
    for floor in (E, W, ALL_WHOLE):
        row = gaps_of(floor, 1, -150, 300)
        found.update([row[at:at + length] for at in range(300 - length + 1)])
    return found


def some_phases():
    source = random.Random(3)
    found = [(1, 0, 3), (-1, 0, 3), (2, 0, 3), (5, -3, 3), (8, -6, 3), (1, 0, 2), (7, 0, 10), (-3, 0, 5), (9, 0, 10)]
    while len(found) < 40:
        d = source.randrange(2, 9)
        thing = (source.randrange(-40, 40), source.randrange(-25, 25), d)
        if is_below(LEAST, thing) and is_below(thing, ONE) and not is_whole(thing):
            found.append(thing)
    return found


def long_phases():
    """Phases with numbers of 120 figures."""
    long = 10 ** 119
    b = 61803398874989 * 10 ** 105
    found = [(long - 1, 2, long + 9), (3, 1, long), (-long // 2, 0, long + 1)]
    for d in (7 * 10 ** 100 + 1, 7, 10 ** 119 + 3):
        a = d - integer_below((0, b, 1))
        found.extend([(a + by, b, d) for by in (-3, -2)])
    return found


class Gaps(unittest.TestCase):
    def test_examples(self):
        self.assertEqual(gaps_of(E, 0, 0, 6), "SLLSLS")
        self.assertEqual(longs_between(E, 0, 0, 10 ** 30), 618033988749894848204586834365)
        self.assertEqual(judge_gaps("LSL"), ("between", (0, 0, 1), (-1, 1, 1)))
        self.assertIs(gaps_hold("LSLSLS", ("stretch", 1, 6)), True)
        self.assertEqual(share_of_gaps("SLSL"), (5, -3, 1))
        self.assertEqual(gaps_of_length(3), ("LLS", "LSL", "SLL", "SLS"))
        self.assertEqual(letters_behind("LL"), ("S",))
        self.assertEqual(next_place(E, 0, 0, "SLSL"), 3)
        self.assertEqual(surely_within(4), 11)
        self.assertEqual(spread("LLS"), "SLSLL")
        self.assertEqual(agreement((1, 0, 3), (1, 0, 2)), 6)
        self.assertEqual(gaps_from((1, 0, 3), 9), "LSLLSLSLL")
        self.assertEqual(gaps_from((1, 0, 2), 9), "LSLLSLLSL")
        self.assertEqual(agreement((1, 0, 10 ** 20), (2, 0, 10 ** 20)), 51680708854858323072)

    def test_what_are_gaps(self):
        for gaps in SHORT_ROWS + [LONG_ROW, "LS" * 1000]:
            self.assertIs(is_gaps(gaps), True)
            self.assertIs(is_gaps(thing=gaps), True)
        for thing in NO_GAPS:
            self.assertIs(is_gaps(thing), False)
            for call in (judge_gaps, do_stand, spread, share_of_gaps, letters_behind, letters_ahead):
                check_error(self, BadGaps, {"thing": thing}, call, thing)
                check_error(self, BadGaps, {"thing": thing}, call, gaps=thing)
            check_error(self, BadGaps, {"thing": thing}, gaps_hold, thing, ("stretch", 0, 1))
            check_error(self, BadGaps, {"thing": thing}, gaps_hold, thing=None, gaps=thing)
            check_error(self, BadGaps, {"thing": thing}, next_place, E, 0, 0, thing)

    def test_gaps_of_floors(self):
        for floor in FLOORS:
            for j in range(5):
                for number in (-9, 0, 4):
                    self.assertEqual(gaps_of(floor, j, number, 20), letters_by(floor, j, number, 20))
                self.assertEqual(gaps_of(many=30, number=-15, direction=j, floor=floor),
                                 gaps_of(nearly(floor), j, -15, 30))
                self.assertEqual(gaps_of(floor, j, 3, 0), "")

    def test_a_phase_of_0_is_decided_by_the_side(self):
        for floor in EDGES:
            for r in whole_keys(floor):
                a, b, _ = floor.all_keys[r]
                bar = (r, -b, a + b)
                self.assertEqual(phase_of(floor, bar), (0, 0, 1))
                self.assertIs(has_bar(floor, bar), True)
                self.assertEqual(gaps_of(floor, r, a, 3), "SLL" if floor.side[r] == 1 else "LSL")
                self.assertEqual(longs_between(floor, r, a, a + 1), 0 if floor.side[r] == 1 else 1)

    def test_great_numbers(self):
        for floor in FLOORS[:9] + FLOORS[-6:]:
            for j, number in itertools.product(range(5), FAR_NUMBERS):
                self.assertEqual(gaps_of(floor, j, number, 6), letters_by(floor, j, number, 6))
                self.assertEqual(longs_between(last=number, first=7, direction=j, floor=floor),
                                 bar_of(floor, j, number)[1] - bar_of(floor, j, 7)[1])
                longs = gaps_of(floor, j, number, 400).count("L")
                self.assertEqual(longs_between(floor, j, number, number + 400), longs)
                self.assertEqual(longs_between(floor, j, number, -5), -longs_between(floor, j, -5, number))

    def test_wrong_arguments(self):
        for thing in odd_integers() + [5, -1]:
            check_error(self, BadDirection, {"thing": thing}, gaps_of, E, thing, None, None)
            check_error(self, BadDirection, {"thing": thing}, longs_between, E, thing, None, None)
            check_error(self, BadDirection, {"thing": thing}, next_place, E, thing, None, None)
        for thing in odd_integers():
            check_error(self, BadCount, {"thing": thing}, gaps_of, E, 0, thing, None)
            check_error(self, BadCount, {"thing": thing}, gaps_of, E, 4, many=-1, number=thing)
            check_error(self, BadCount, {"thing": thing}, longs_between, E, 0, thing, None)
            check_error(self, BadCount, {"thing": thing}, longs_between, E, 0, 5, thing)
            check_error(self, BadCount, {"thing": thing}, next_place, E, 0, thing, None)
        for thing in odd_integers() + [-1, 401, 10 ** 30]:
            check_error(self, BadCount, {"thing": thing}, gaps_of, E, 0, 10 ** 60, thing)
            check_error(self, BadCount, {"thing": thing}, gaps_of_length, thing)
            check_error(self, BadCount, {"thing": thing}, gaps_of_length, length=thing, most=0)
            check_error(self, BadCount, {"thing": thing}, gaps_from, (1, 0, 3), thing)
        self.assertEqual(len(gaps_of(E, 0, 0, 400)), 400)
        self.assertEqual(len(gaps_from((1, 0, 3), 400)), 400)


class Papers(unittest.TestCase):
    def test_each_row_has_papers_of_exactly_one_kind(self):
        for gaps in SHORT_ROWS + ["LSLSLSLLSLS", LONG_ROW, LONG_ROW[:200] + LONG_ROW[50:250], "L" * 400, "S"]:
            stretches = right_stretches(gaps) if len(gaps) < 20 else []
            low, high = phases_before(gaps)
            paper = judge_gaps(gaps)
            self.assertIs(gaps_hold(gaps, paper), True)
            self.assertIs(do_stand(gaps=gaps), is_below(low, high))
            if do_stand(gaps):
                self.assertEqual(paper, ("between", low, high))
                self.assertEqual(stretches, [])
                self.assertIs(gaps_hold(gaps, ("stretch", 0, max(len(gaps), 1))), False)
            else:
                self.assertEqual(paper[0], "stretch")
                self.assertIs(gaps_hold(gaps, ("between", low, high)), False)
            if len(gaps) < 20:
                for i, j in itertools.product(range(-1, len(gaps) + 2), repeat=2):
                    right = ("stretch", i, j) in stretches
                    self.assertIs(gaps_hold(gaps, ("stretch", i, j)), right)

    def test_only_right_papers_are_accepted(self):
        for gaps in ("", "L", "LSL", "SLLSLS", LONG_ROW[:50]):
            _, low, high = judge_gaps(gaps)
            for one, other in ((low, high), ((low[0] * 3, low[1] * 3, 3), high),
                               (low, (high[0] * 10 ** 50, high[1] * 10 ** 50, 10 ** 50))):
                self.assertIs(gaps_hold(thing=("between", one, other), gaps=gaps), True)
            for thing in spoiled(("between", low, high)) + odd_values() + [
                    ("between", high, low), ("between", low, low), ("between", plus(low, (1, 0, 99)), high),
                    ("between", low, plus(high, (1, 0, 99))), ("stretch", low, high), ("lives", low, high)]:
                self.assertIs(gaps_hold(gaps, thing), False)
        for gaps in ("SS", "LSLSLS", "LLL"):
            paper = judge_gaps(gaps)
            for thing in spoiled(paper) + odd_values() + [("between", paper[1], paper[2]), ("stretch", False, 2),
                                                          ("stretch", -1, 2), ("stretch", 0, len(gaps) + 1),
                                                          ("stretch", 10 ** 60, 10 ** 60 + 2), ("stretch", 1, 1)]:
                self.assertIs(gaps_hold(gaps, thing), False, thing)

    def test_gaps_stand_exactly_if_they_are_found(self):
        for length in range(1, 9):
            found = rows_of_floors(length)
            self.assertEqual(len(found), length + 1)
            for row in itertools.product("LS", repeat=length):
                self.assertIs(do_stand("".join(row)), "".join(row) in found)

    def test_the_phases_of_a_paper(self):
        for floor in regular_floors()[:3]:
            for gaps in ("L", "SL", "LLSLS", "SLSLLSLL"):
                _, low, high = judge_gaps(gaps)
                for number in range(-40, 40):
                    phase = phase_of(floor, bar_of(floor, 2, number))
                    does_follow = gaps_of(floor, 2, number, len(gaps)) == gaps
                    self.assertEqual(does_follow, is_below(low, phase) and is_below(phase, high))

    def test_all_gaps_of_a_length(self):
        for length in list(range(30)) + [100, 400]:
            found = gaps_of_length(length)
            self.assertEqual(len(found), length + 1)
            self.assertEqual(list(found), sorted(set(found)))
            for gaps in found[::max(1, length // 20)]:
                self.assertEqual(len(gaps), length)
                self.assertIs(do_stand(gaps), True)
            if length < 9:
                self.assertEqual(set(found), rows_of_floors(length))
            self.assertEqual(gaps_of_length(length=length, most=length + 1), found)
            check_error(self, TooMany, {"most": length}, gaps_of_length, length, most=length)
        check_error(self, TooMany, {"most": 0}, gaps_of_length, 0, most=0)

    def test_shares(self):
        for length in range(12):
            total = (0, 0, 1)
            for gaps in gaps_of_length(length):
                total = plus(total, share_of_gaps(gaps=gaps))
            self.assertEqual(total, ONE)
        row = "".join([gaps_of(E, 3, number, 400) for number in range(0, 20000, 400)])
        for gaps in ("L", "S", "SLSL", "LLSLL", "SLLSLLS"):
            many = sum([row.startswith(gaps, at) for at in range(19000)])
            expected = times(share_of_gaps(gaps), (19000, 0, 1))
            gap = minus(expected, (many, 0, 1))
            self.assertTrue(is_below(gap, (5, 0, 1)) and is_below((-5, 0, 1), gap))

    def test_letters(self):
        for length in range(10):
            longer = gaps_of_length(length + 1)
            for gaps in gaps_of_length(length):
                self.assertEqual(letters_behind(gaps=gaps), tuple([c for c in "LS" if gaps + c in longer]))
                self.assertEqual(letters_ahead(gaps=gaps), tuple([c for c in "LS" if c + gaps in longer]))

    def test_dead_gaps(self):
        for gaps in ("SS", "LLL", "LSLSLS", LONG_ROW[:390] + "SS", "LS" * 200):
            for call in (share_of_gaps, letters_behind, letters_ahead, lambda gaps: next_place(E, 0, 0, gaps)):
                with self.assertRaises(Dead) as caught:
                    call(gaps)
                self.assertEqual(caught.exception.paper[0], "stretch")
                self.assertIs(gaps_hold(gaps, caught.exception.paper), True)


class Gathering(unittest.TestCase):
    def test_bars_of_the_gathered_floor(self):
        for floor in FLOORS:
            greater = gathered(floor)
            for j in range(5):
                found = []
                for number in range(-30, 31):
                    bar = bar_of(floor, j, number)
                    phase = phase_of(floor, bar)
                    order = sign(minus(phase, BEHIND_SHORT))
                    if order < 0 or (order == 0 and floor.side[j] == 1):
                        _, x, y = bar
                        self.assertIs(has_bar(greater, (j, y, x - y)), True)
                        self.assertEqual(phase_of(greater, (j, y, x - y)), times((0, -1, 1), phase))
                        found.append(x)
                # Its number is x; and there are no others.
                self.assertEqual(found, list(range(found[0], found[-1] + 1)))

    def test_spread_gaps(self):
        self.assertEqual(spread(gaps=""), "")
        for gaps in SHORT_ROWS:
            self.assertEqual(spread(gaps), "".join(["SL" if c == "L" else "L" for c in gaps]))
        for floor in FLOORS:
            greater = gathered(floor)
            for number in (-5, 0, 8):
                _, y, less = bar_of(greater, 3, number)
                x = y + less
                gaps = spread(gaps_of(greater, 3, number, 12))
                self.assertIs(has_bar(floor, (3, x, y)), True)
                self.assertEqual(gaps_of(floor, 3, x + y, len(gaps)), gaps)


class Again(unittest.TestCase):
    def test_next_place(self):
        for floor in FLOORS:
            for gaps in ("", "L", "SL", "LLSLS", "SLLSLSLLSLLSL"):
                for number in (-20, 0, 13, 10 ** 60 - 9):
                    place = next_place(gaps=gaps, number=number, direction=2, floor=floor)
                    row = gaps_of(floor, 2, number, 60)
                    self.assertEqual(place, number + row.index(gaps))

    def test_next_place_of_long_gaps(self):
        for floor in (E, W, ALL_WHOLE):
            for gaps in gaps_of_length(100)[::9] + gaps_of_length(400)[::80]:
                place = next_place(floor, 1, -10 ** 59, gaps)
                self.assertEqual(gaps_of(floor, 1, place, len(gaps)), gaps)
                self.assertLessEqual(place + 10 ** 59 + len(gaps), surely_within(len(gaps)))
        for at in (0, 1, 7, 40):
            self.assertEqual(next_place(E, 0, at, LONG_ROW[at:at + 300]), at)

    def test_next_place_at_the_edge(self):
        for floor in EDGES:
            for r in whole_keys(floor):
                # The bar with this number has the phase 0, which bounds the phases for both rows.
                number = floor.all_keys[r][0]
                is_short = floor.side[r] == 1
                self.assertEqual(next_place(floor, r, number, "SLL") == number, is_short)
                self.assertEqual(next_place(floor, r, number, "LSL") == number, not is_short)

    def test_surely_within(self):
        rows = []
        for floor in (E, W):
            row = letters = ""
            for number in range(0, 2000, 400):
                letters = gaps_of(floor, 2, number, 400)
                row += letters
            rows.append(row)
        for length in range(1, 15):
            many = surely_within(length=length)
            sizes = set()
            fewer = set()
            for row in rows:
                for at in range(1500):
                    part = row[at:at + many]
                    places = [part[k:k + length] for k in range(many - length + 1)]
                    sizes.add(len(set(places)))
                    fewer.add(len(set(places[:-1])))
            self.assertEqual(sizes, {length + 1})
            self.assertIn(length, fewer)

    def test_surely_within_great_lengths(self):
        self.assertEqual([surely_within(n) for n in range(1, 9)], [3, 6, 10, 11, 17, 18, 19, 28])
        f = [1, 2]
        while f[-1] <= 10 ** 30:
            f.append(f[-1] + f[-2])
        self.assertEqual(surely_within(10 ** 30), f[-1] + f[-2] + 10 ** 30 - 1)
        self.assertEqual(surely_within(f[-3]), f[-1] + f[-3] - 1)
        self.assertEqual(surely_within(f[-3] - 1), f[-2] + f[-3] - 2)
        for thing in odd_integers() + [0, -1, 10 ** 30 + 1]:
            check_error(self, BadCount, {"thing": thing}, surely_within, thing)
            check_error(self, BadCount, {"thing": thing}, surely_within, length=thing)


class Phases(unittest.TestCase):
    def test_what_is_a_phase(self):
        for phase in some_phases() + long_phases() + [(2, 0, 6), (10, -6, 6)]:
            self.assertIs(is_phase(thing=phase), True)
        for thing in odd_values() + spoiled((1, 0, 3)) + [(0, 0, 1), (0, 0, 7), LEAST, ONE, (2, -1, 1), (4, -2, 2),
                                                          (5, 0, 4), (-2, 0, 3), (2, -2, 2), (10 ** 99, 0, 3), 0]:
            if thing in ((1, 0, 3), (1, 0, 2)) and thing[1] is not False:
                continue
            self.assertIs(is_phase(thing), False, thing)
            check_error(self, BadPhase, {"thing": thing}, gaps_from, thing, None)
            check_error(self, BadPhase, {"thing": thing}, gaps_from, many=1, phase=thing)
            check_error(self, BadPhase, {"thing": thing}, agreement, thing, None)
            check_error(self, BadPhase, {"thing": thing}, agreement, (1, 0, 3), thing)
            check_error(self, BadPhase, {"thing": thing}, agreement, other=thing, one=(1, 0, 3))

    def test_gaps_from_phases(self):
        for floor in regular_floors() + long_floors():
            for number in (-3, 0, 10 ** 59):
                phase = phase_of(floor, bar_of(floor, 4, number))
                self.assertEqual(gaps_from(many=50, phase=phase), gaps_of(floor, 4, number, 50))
        self.assertEqual(gaps_from((2, 0, 6), 20), gaps_from((1, 0, 3), 20))
        self.assertEqual(gaps_from((2, 0, 6), 0), "")

    def test_agreement(self):
        for one, other in itertools.product(some_phases(), repeat=2):
            many = agreement(one=one, other=other)
            self.assertEqual(many, agreement(other, one))
            if are_equal(one, other):
                self.assertIsNone(many)
                continue
            rows = (gaps_from(one, 400), gaps_from(other, 400))
            if many < 400:
                self.assertEqual(rows[0][:many], rows[1][:many])
                self.assertNotEqual(rows[0][many], rows[1][many])
            else:
                self.assertEqual(rows[0], rows[1])

    def test_equal_phases(self):
        for a, b, d in some_phases() + long_phases():
            self.assertIsNone(agreement((a, b, d), (a, b, d)))
            self.assertIsNone(agreement((7 * a, 7 * b, 7 * d), (a, b, d)))
            self.assertEqual(reduced((7 * a, 7 * b, 7 * d)), reduced((a, b, d)))

    def test_agreement_for_very_many_gaps(self):
        phases = long_phases()
        self.assertGreater(len(phases), 5)
        for phase in phases + [(1, 0, 3), (7, -5, 4)]:
            for little in ((1, 0, 10 ** 40), (-3, 2, 7 * 10 ** 100 + 1), (1, 0, 10 ** 119)):
                near = plus(phase, little)
                if not is_phase(near):
                    continue
                many = agreement(phase, near)
                self.assertEqual(many, agreement(near, phase))
                # Behind n gaps the phases have led on by -n and g for each long gap among them: the least number
                # of long gaps and of all gaps is told by the rule of the document for one phase at a time.
                first, letter = self.phase_behind(phase, many)
                second, other_letter = self.phase_behind(near, many)
                self.assertNotEqual(letter, other_letter)
                self.assertEqual(minus(second, first), minus(near, phase))
                for before in (many // 2, many // 3 * 2, many - 1):
                    if before >= 0:
                        first, letter = self.phase_behind(phase, before)
                        second, other_letter = self.phase_behind(near, before)
                        self.assertEqual(letter, other_letter)
                        self.assertEqual(minus(second, first), minus(near, phase))

    def phase_behind(self, phase, many):
        """The phase behind so many gaps, and whether the next gap is long."""
        # It is the phase plus many less g times an integer, and lies from 1 - g to 1.
        total = plus(phase, (many, 0, 1))
        longs = 0
        step = 1 << 500
        while step:
            if not is_below(minus(total, (0, longs + step, 1)), LEAST):
                longs += step
            step //= 2
        found = minus(total, (0, longs, 1))
        self.assertTrue(is_phase(found))
        return found, is_below((0, 0, 1), found)


if __name__ == "__main__":
    unittest.main()
