"""What low and high bounds of the five keys say together.

Bounds are a pair of tuples, the lows and the highs, of five whole golden numbers each, reduced, with None where
there is no bound. Their region is the set of all pairs (t_0, t_1) whose five keys lie between them.
"""

from nevertwice.checks import is_direction, is_tuple_of
from nevertwice.floors import keys_by
from nevertwice.golden import is_below, is_golden, is_whole, minus, plus, quotient, sign, sign_of_parts, times

# A sum of bounds consists of terms ((a, b), is_own, offset): a + b g times the bound at r + offset, an own one
# or one of the other kind.
# The seven low sums of [6.4], for which the own bounds are the lows; with the highs they are the high sums.
SUMS = (
    (((1, 0), True, 0),),
    (((1, -1), False, -1), ((1, -1), False, 1)),
    (((-1, 0), False, 2), ((0, -1), False, 1)),
    (((-1, 0), False, -2), ((0, -1), False, -1)),
    (((0, 1), True, -2), ((0, 1), True, 2)),
    (((-1, 1), True, 2), ((-1, 0), False, -1)),
    (((-1, 1), True, -2), ((-1, 0), False, 1)),
)
# For each kind of paper of [6.3] that shows that a region is empty the sum, the lows being the own bounds,
# that is not below 0 if it is right.
EMPTY_PAPERS = {
    "pair": (((1, 0), True, 0), ((-1, 0), False, 0)),
    "lows": (((1, 0), True, -1), ((1, 0), True, 1), ((0, 1), True, 0)),
    "highs": (((-1, 0), False, -1), ((-1, 0), False, 1), ((0, -1), False, 0)),
    "lowgap": (((1, 0), True, -2), ((1, 0), True, 2), ((1, -1), False, 0)),
    "highgap": (((-1, 0), False, -2), ((-1, 0), False, 2), ((-1, 1), True, 0)),
}


def _sum_of_terms(terms, own, other, direction):
    """The sum of bounds, None if one of them does not exist."""
    total_a = 0
    total_b = 0
    for (a, b), is_own, offset in terms:
        bounds = own if is_own else other
        bound = bounds[(direction + offset) % 5]
        if bound is None:
            return None
        # Written out for whole numbers, as very many of these sums are asked for.
        total_a += a * bound[0] + b * bound[1]
        total_b += (a + b) * bound[1] + b * bound[0]
    return (total_a, total_b, 1)


def sums_at(own, other, direction):
    """The seven sums of [6.4] at a direction, None for those that do not exist."""
    return tuple([_sum_of_terms(terms, own, other, direction) for terms in SUMS])


def is_less(one, other):
    """Whether one whole golden number is less than another one."""
    return sign_of_parts(one[0] - other[0], one[1] - other[1]) < 0


def greatest(numbers):
    """The greatest of these whole golden numbers, None being no number; None if there is none."""
    best = None
    for number in numbers:
        if number is not None and (best is None or is_less(best, number)):
            best = number
    return best


def least(numbers):
    """The least of these whole golden numbers, None being no number; None if there is none."""
    best = None
    for number in numbers:
        if number is not None and (best is None or is_less(number, best)):
            best = number
    return best


def does_sum_reach(bounds, direction, own_bound, is_low):
    """Whether some sum at a direction makes an own bound say nothing new: a low sum that is at least a low bound,
    or a high sum that is at most a high one."""
    lows, highs = bounds
    own, other = (lows, highs) if is_low else (highs, lows)
    for terms in SUMS:
        total = _sum_of_terms(terms, own, other, direction)
        if total is not None and not (is_less(total, own_bound) if is_low else is_less(own_bound, total)):
            return True
    return False


def bounds_together(one, other):
    """The bounds of what both of two bounds leave."""
    lows = tuple([greatest(pair) for pair in zip(one[0], other[0])])
    highs = tuple([least(pair) for pair in zip(one[1], other[1])])
    return (lows, highs)


def sure_lows_of(bounds):
    """The greatest low sum for each direction."""
    lows, highs = bounds
    return tuple([greatest(sums_at(lows, highs, r)) for r in range(5)])


def sure_highs_of(bounds):
    """The least high sum for each direction."""
    lows, highs = bounds
    return tuple([least(sums_at(highs, lows, r)) for r in range(5)])


def _does_show_empty(bounds, kind, direction):
    lows, highs = bounds
    total = _sum_of_terms(EMPTY_PAPERS[kind], lows, highs, direction)
    return total is not None and sign_of_parts(total[0], total[1]) >= 0


def empty_paper(bounds):
    """A paper that shows that the region is empty, None if it is not."""
    for kind in EMPTY_PAPERS:
        for direction in range(5):
            if _does_show_empty(bounds, kind, direction):
                return (kind, direction)
    return None


def empty_paper_holds(bounds, thing):
    """Whether any value is a right paper that shows that the region is empty."""
    if not is_tuple_of(thing, 2) or not isinstance(thing[0], str) or not is_direction(thing[1]):
        return False
    return thing[0] in EMPTY_PAPERS and _does_show_empty(bounds, thing[0], thing[1])


def judge_region(bounds):
    """A paper that says whether the region, if it has an end, is empty; it tells a regular floor if not."""
    paper = empty_paper(bounds)
    if paper is not None:
        return paper
    one, other = keys_inside(bounds)
    return ("lives", one, other)


def region_paper_holds(bounds, thing):
    """Whether any value is a right paper that says whether the region is empty."""
    if is_tuple_of(thing, 3) and thing[0] == "lives":
        return are_keys_inside(bounds, thing[1:])
    return empty_paper_holds(bounds, thing)


def are_keys_inside(bounds, thing):
    """Whether any value is a pair of golden numbers that are the keys 0 and 1 of a regular floor in the region."""
    if not is_tuple_of(thing, 2) or not is_golden(thing[0]) or not is_golden(thing[1]):
        return False
    all_keys = keys_by(thing[0], thing[1])
    lows, highs = bounds
    for key, low, high in zip(all_keys, lows, highs):
        if is_whole(key):
            return False
        if low is not None and not is_below(low, key):
            return False
        if high is not None and not is_below(key, high):
            return False
    return True


def _point_on_the_way(one, other, share):
    """The five keys that lie this share of the way from one to other."""
    first = plus(one[0], times(share, minus(other[0], one[0])))
    second = plus(one[1], times(share, minus(other[1], one[1])))
    return keys_by(first, second)


def _cut_off(corners, direction, bound, is_low):
    """The corners, in order, of what is left of a polygon if keys beyond a bound are cut off."""
    if bound is None:
        return corners
    beyond = -1 if is_low else 1
    kept = []
    before = corners[-1]
    for corner in corners:
        gap = minus(bound, before[direction])
        way = minus(corner[direction], before[direction])
        order = sign(minus(corner[direction], bound))
        if sign(gap) * order > 0:
            kept.append(_point_on_the_way(before, corner, quotient(gap, way)))
        if order != beyond:
            kept.append(corner)
        before = corner
    return kept


def region_corners(bounds):
    """The corners of the closed region, if it is not empty and has an end, as tuples of five keys.

    They stand in the order in which one goes around with the region on the left, t_0 to the right and t_1 upward.
    """
    lows, highs = bounds
    left, bottom = sure_lows_of(bounds)[:2]
    right, top = sure_highs_of(bounds)[:2]
    corners = [keys_by(left, bottom), keys_by(right, bottom), keys_by(right, top), keys_by(left, top)]
    for r in range(5):
        corners = _cut_off(corners, r, lows[r], True)
        corners = _cut_off(corners, r, highs[r], False)
    return corners


def _keys_between(corners, parts, many):
    """The five keys a 1 / parts of the way to the third of three corners, and many such parts to the second."""
    first, second, third = corners
    start = _point_on_the_way(first, third, (1, 0, parts))
    return tuple([plus(key, times((many, 0, parts), minus(to, since)))
                  for key, since, to in zip(start, first, second)])


def keys_inside(bounds):
    """The keys 0 and 1 of a regular floor in the region, if that is not empty and has an end."""
    corners = region_corners(bounds)[:3]
    parts = 3
    while True:
        # The corners are keys of floors at the edge, but not all points between three of them are: no key is
        # the same at all three, and no difference but zero can be divided by each integer.
        for many in range(1, parts - 1):
            inside = _keys_between(corners, parts, many)
            if not any([is_whole(key) for key in inside]):
                return inside[:2]
        parts += 1
