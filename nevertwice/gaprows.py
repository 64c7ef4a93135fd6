"""Rows of gaps: the long and the short gaps between the bars of one direction."""

from nevertwice.barlines import LEAST_PHASE, LESSER, ONE, bar_of, phase_of
from nevertwice.checks import is_plain_integer, is_tuple_of
from nevertwice.errors import BadCount, BadGaps, BadPhase, Dead, TooMany
from nevertwice.golden import are_equal, is_below, is_golden, is_whole, minus, plus, sign, sign_of_parts, times

LONG = "L"
SHORT = "S"
MOST_GAPS = 400
# Some phase; all gaps that stand follow bars of each floor, whichever it is.
SOME_PHASE = (1, 0, 3)
# 2 - g: what is above it comes from a bar with a short gap.
BEHIND_SHORT = (2, -1, 1)
# -g, by which phases are led on if a floor is gathered.
GATHERING = (0, -1, 1)


def is_gaps(thing):
    """Whether any value is a string of the letters L and S."""
    return isinstance(thing, str) and all([letter in (LONG, SHORT) for letter in thing])


def _need_gaps(thing):
    if not is_gaps(thing):
        raise BadGaps(thing)


def _need_many(thing):
    """Raises the error for any value that is not an integer from 0 to 400."""
    if not is_plain_integer(thing) or not 0 <= thing <= MOST_GAPS:
        raise BadCount(thing)


def _is_under(phase, bound, side):
    """Whether a phase is below a + b g for the bound (a, b); the side decides ties."""
    a, b, d = phase
    order = sign_of_parts(a - bound[0] * d, b - bound[1] * d)
    return side == 1 if order == 0 else order < 0


def _phase_behind(phase, is_short):
    """The phase of the next bar, behind a short or a long gap."""
    a, b, d = phase
    return (a + d, b, d) if is_short else (a + d, b - d, d)


def _gaps_told(phase, side, many):
    """The first many gaps that follow a bar with this phase, in a floor with this side at its direction."""
    letters = []
    for _ in range(many):
        is_short = _is_under(phase, (0, 0), side)
        letters.append(SHORT if is_short else LONG)
        phase = _phase_behind(phase, is_short)
    return "".join(letters)


def gaps_of(floor, direction, number, many):
    """The many gaps that follow the bar with this number."""
    bar = bar_of(floor, direction, number)
    _need_many(many)
    return _gaps_told(phase_of(floor, bar), floor.side[direction], many)


def longs_between(floor, direction, first, last):
    """The x of the bar with the number last less that of the bar with the number first."""
    start = bar_of(floor, direction, first)
    return bar_of(floor, direction, last)[1] - start[1]


def _outermost(gaps):
    """The least and the greatest of the numbers g l(i) - i, as (-i, l(i))."""
    lowest = (0, 0)
    highest = (0, 0)
    longs = 0
    for at, letter in enumerate(gaps):
        if letter == LONG:
            longs += 1
        if sign_of_parts(-at - 1 - lowest[0], longs - lowest[1]) < 0:
            lowest = (-at - 1, longs)
        if sign_of_parts(-at - 1 - highest[0], longs - highest[1]) > 0:
            highest = (-at - 1, longs)
    return lowest, highest


def judge_gaps(gaps):
    """A paper that says whether gaps stand."""
    _need_gaps(gaps)
    lowest, highest = _outermost(gaps)
    low = (highest[0] + 1, highest[1] - 1, 1)
    high = (lowest[0] + 1, lowest[1], 1)
    if is_below(low, high):
        return ("between", low, high)
    # The two numbers are at least g apart, and minus their first parts are the places.
    places = (-lowest[0], -highest[0])
    return ("stretch", min(places), max(places))


def _does_stretch(gaps, first, last):
    """Whether any two values are places between which there are too many or too few long gaps."""
    if not is_plain_integer(first) or not is_plain_integer(last) or not 0 <= first < last <= len(gaps):
        return False
    longs = gaps[first:last].count(LONG)
    many = last - first
    return sign_of_parts(-many, longs - 1) >= 0 or sign_of_parts(-many, longs + 1) <= 0


def gaps_hold(gaps, thing):
    """Whether any value is a right paper for gaps."""
    paper = judge_gaps(gaps)
    if not is_tuple_of(thing, 3):
        return False
    kind, one, other = thing
    if kind == "stretch":
        return _does_stretch(gaps, one, other)
    if kind != "between" or paper[0] != "between" or not is_golden(one) or not is_golden(other):
        return False
    return are_equal(one, paper[1]) and are_equal(other, paper[2])


def do_stand(gaps):
    """Whether gaps stand in floors."""
    return judge_gaps(gaps)[0] == "between"


def spread(gaps):
    """The gaps with SL in the place of each L and L in the place of each S."""
    _need_gaps(gaps)
    return "".join([SHORT + LONG if letter == LONG else LONG for letter in gaps])


def _phases_before(gaps):
    """The two numbers between which the phases of the bars are that the gaps follow."""
    kind, low, high = judge_gaps(gaps)
    if kind != "between":
        raise Dead((kind, low, high))
    return low, high


def share_of_gaps(gaps):
    """The share of gaps: of the bars of one direction that they follow."""
    low, high = _phases_before(gaps)
    return times(minus(high, low), LESSER)


def letters_behind(gaps):
    """The ascending tuple of the letters that, put behind the gaps, make gaps that stand."""
    _phases_before(gaps)
    return tuple([letter for letter in (LONG, SHORT) if do_stand(gaps + letter)])


def letters_ahead(gaps):
    """The ascending tuple of the letters that, put ahead of the gaps, make gaps that stand."""
    _phases_before(gaps)
    return tuple([letter for letter in (LONG, SHORT) if do_stand(letter + gaps)])


def gaps_of_length(length, *, most=401):
    """The ascending tuple of all gaps of a length that stand."""
    _need_many(length)
    if length + 1 > most:
        raise TooMany(most)
    row = _gaps_told(SOME_PHASE, 0, surely_within(max(length, 1)))
    return tuple(sorted({row[at:at + length] for at in range(len(row) - length + 1)}))


def next_place(floor, direction, number, gaps):
    """The least number, from the given one on, of a bar that the gaps follow."""
    phase = phase_of(floor, bar_of(floor, direction, number))
    side = floor.side[direction]
    low, high = _phases_before(gaps)
    place = number
    # It is found within as many bars as surely_within tells.
    while _is_under(phase, low, side) or not _is_under(phase, high, side):
        phase = _phase_behind(phase, _is_under(phase, (0, 0), side))
        place += 1
    return place


def surely_within(length):
    """Among how many gaps, one behind the other, all gaps of this length that stand are surely found."""
    if not is_plain_integer(length) or not 1 <= length <= 10 ** 30:
        raise BadCount(length)
    last = 1
    following = 2
    while following <= length:
        last, following = following, last + following
    return last + following + length - 1


def is_phase(thing):
    """Whether any value is a golden number above 1 - g and below 1 that is not whole."""
    if not is_golden(thing) or is_whole(thing):
        return False
    return is_below(LEAST_PHASE, thing) and is_below(thing, ONE)


def _need_phase(thing):
    if not is_phase(thing):
        raise BadPhase(thing)


def gaps_from(phase, many):
    """The first many gaps that a phase tells."""
    _need_phase(phase)
    _need_many(many)
    return _gaps_told(phase, 0, many)


def agreement(one, other):
    """The number of gaps for which two phases agree, None for equal ones."""
    _need_phase(one)
    _need_phase(other)
    if are_equal(one, other):
        return None
    alike = 0
    # So many gaps stand for a long one, and for a short one, of the phases as they are gathered by now.
    long_gaps = 1
    short_gaps = 1
    while sign(one) == sign(other):
        if is_below(BEHIND_SHORT, one) or is_below(BEHIND_SHORT, other):
            alike += long_gaps
            one = plus(one, LEAST_PHASE)
            other = plus(other, LEAST_PHASE)
        one = times(one, GATHERING)
        other = times(other, GATHERING)
        long_gaps, short_gaps = long_gaps + short_gaps, long_gaps
    return alike
