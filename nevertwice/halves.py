"""Half tiles: their children and parents, and the letters by which these are told."""

from nevertwice.checks import is_direction, is_plain_integer, is_tuple_of
from nevertwice.corners import is_corner_row, opposite_row
from nevertwice.errors import BadCount, BadHalf, BadLetters, TooMany
from nevertwice.fives import stepped
from nevertwice.floors import has_tile
from nevertwice.gathering import cut_corner, gathered, gathered_corner

MOST_LETTERS = 400
MOST_CUTTINGS = 12
# For each letter whether the parent is thick, whether the foot of the child of a low parent (K, R, S) is raised
# by e_(R + 2 d), and how many times d its two directions are beyond R; S is R + d or R + 2 d.
CHILDREN = {
    "a": (True, False, 2, 3),
    "b": (True, True, 0, 1),
    "c": (False, False, 2, 3),
    "d": (True, False, 2, 0),
    "e": (False, True, 3, 1),
}
# The letters that stand for thick children, and for thin ones.
THICK_LETTERS = "abc"
THIN_LETTERS = "de"


def is_half_row(thing):
    """Whether any value is (k, r, s) with a corner k of the level 1 or 2 and two different directions."""
    if not is_tuple_of(thing, 3) or not is_corner_row(thing[0]) or sum(thing[0]) > 2:
        return False
    return is_direction(thing[1]) and is_direction(thing[2]) and thing[1] != thing[2]


def need_half(thing):
    """Raises the error for any value that is not a half tile, of whichever floor."""
    if not is_half_row(thing):
        raise BadHalf(thing)


def _tile_of_half(half):
    foot, r, s = half
    return (foot, min(r, s), max(r, s))


def has_half(floor, thing):
    """Whether any value is a half tile that the floor has."""
    return is_half_row(thing) and has_tile(floor, _tile_of_half(thing))


def need_half_of(floor, thing):
    """Raises the error for any value that is not a half tile of the floor."""
    if not has_half(floor, thing):
        raise BadHalf(thing)


def corners_of_half(half):
    """The tuple of its foot k, k + e_r and k + e_r + e_s."""
    need_half(half)
    foot, r, s = half
    beside = stepped(foot, r, 1)
    return (foot, beside, stepped(beside, s, 1))


def opposite_half(half):
    """The half tile with the opposite of the top as its foot and the two directions exchanged."""
    need_half(half)
    return _opposite_of(half)


def _opposite_of(half):
    foot, r, s = half
    return (opposite_row(stepped(stepped(foot, r, 1), s, 1)), s, r)


def is_thick_half(half):
    """Whether the directions of a half tile are near."""
    return (half[2] - half[1]) % 5 in (1, 4)


def _is_low_half(half):
    return sum(half[0]) == 1


def _sense_of(half, many):
    """The d, 1 or -1, for which the second direction is many times d beyond the first one."""
    return 1 if (half[2] - half[1] - many) % 5 == 0 else -1


def _children_of_low(half):
    """The pairs of a letter and a child of a low half tile."""
    corner, r, _ = half
    is_thick_parent = is_thick_half(half)
    sense = _sense_of(half, 1 if is_thick_parent else 2)
    foot = cut_corner(stepped(corner, r, 1))
    raised_foot = stepped(foot, (r + 2 * sense) % 5, 1)
    found = []
    for letter in CHILDREN:
        is_of_thick, is_raised, first, second = CHILDREN[letter]
        if is_of_thick == is_thick_parent:
            start = raised_foot if is_raised else foot
            found.append((letter, (start, (r + first * sense) % 5, (r + second * sense) % 5)))
    return found


def _children_in_order(half):
    if _is_low_half(half):
        return _children_of_low(half)
    return [(letter, _opposite_of(child)) for letter, child in _children_of_low(_opposite_of(half))]


def children_of(half):
    """The tuple of the pairs of a letter and a child, ascending by the letter."""
    need_half(half)
    return tuple(_children_in_order(half))


def climbed_once(half, letter):
    """The half tile of which this one is a child with a letter that stands for its kind."""
    is_of_thick, is_raised, first, second = CHILDREN[letter]
    if _is_low_half(half) == is_raised:
        # The parent is a high one.
        return _opposite_of(climbed_once(_opposite_of(half), letter))
    foot, r, _ = half
    sense = _sense_of(half, second - first)
    start = (r - first * sense) % 5
    if is_raised:
        foot = stepped(foot, (start + 2 * sense) % 5, -1)
    corner = stepped(gathered_corner(foot), start, -1)
    return (corner, start, (start + (1 if is_of_thick else 2) * sense) % 5)


def kind_climbed_to(is_thick, letters):
    """Whether the half tile is thick to which letters lead from a thick or a thin one, None if they do not fit."""
    for letter in letters:
        if letter not in (THICK_LETTERS if is_thick else THIN_LETTERS):
            return None
        is_thick = CHILDREN[letter][0]
    return is_thick


def climbed(half, letters):
    """The half tile that is climbed to by these letters."""
    need_half(half)
    if not isinstance(letters, str) or len(letters) > MOST_LETTERS:
        raise BadLetters(letters)
    if kind_climbed_to(is_thick_half(half), letters) is None:
        raise BadLetters(letters)
    current = half
    for letter in letters:
        current = climbed_once(current, letter)
    return current


def parent_in(greater, half):
    """The letter of a half tile and its parent, one of the gathered floor that is passed."""
    letters = THICK_LETTERS if is_thick_half(half) else THIN_LETTERS
    for letter in letters[:-1]:
        parent = climbed_once(half, letter)
        if has_half(greater, parent):
            return (letter, parent)
    # It has exactly one parent there, so it has the last letter if it has none of the others.
    return (letters[-1], climbed_once(half, letters[-1]))


def parent_of(floor, half):
    """The pair of the letter and the parent, a half tile of the gathered floor."""
    need_half_of(floor, half)
    return parent_in(gathered(floor), half)


def letters_of(floor, half, many):
    """The first letters of the address of a half tile, so many."""
    need_half_of(floor, half)
    if not is_plain_integer(many) or not 0 <= many <= MOST_LETTERS:
        raise BadCount(many)
    letters = []
    for _ in range(many):
        floor = gathered(floor)
        letter, half = parent_in(floor, half)
        letters.append(letter)
    return "".join(letters)


def _many_cut(half, many):
    """The number of half tiles into which one is cut by so many cuttings."""
    thick = 1 if is_thick_half(half) else 0
    thin = 1 - thick
    for _ in range(many):
        thick, thin = 2 * thick + thin, thick + thin
    return thick + thin


def cut_into(half, many, *, most=4096):
    """The ascending tuple of the half tiles into which one is cut by so many cuttings."""
    need_half(half)
    if not is_plain_integer(many) or not 0 <= many <= MOST_CUTTINGS:
        raise BadCount(many)
    if _many_cut(half, many) > most:
        raise TooMany(most)
    found = [half]
    for _ in range(many):
        found = [child for parent in found for _, child in _children_in_order(parent)]
    return tuple(sorted(found))
