"""Addresses: the endless rows of letters of the greater and greater half tiles in which a half tile lies."""

from nevertwice.checks import is_plain_integer, is_tuple_of
from nevertwice.corners import shadow_of
from nevertwice.errors import BadCount, BadLetters, TooMany
from nevertwice.floors import KEY_RULE, Floor, sides
from nevertwice.gathering import gathered
from nevertwice.golden import minus, quotient, times
from nevertwice.halves import (climbed_once, has_half, is_thick_half, kind_climbed_to, need_half, need_half_of,
                               parent_in)

MOST_PASSED = 1000
ONE = (1, 0, 1)
# 1 - g, by which keys are led back if a floor is cut.
CUTTING = (1, -1, 1)
# Rings that fit a thin and a thick half tile.
FITTING_RINGS = ("e", "b")


class Address:
    """A half tile with an endless row of letters: those of the beginning, then the ring again and again."""

    def __init__(self, half, beginning, ring):
        need_half(half)
        if not isinstance(beginning, str) or len(beginning) > MOST_PASSED:
            raise BadLetters(beginning)
        is_thick = kind_climbed_to(is_thick_half(half), beginning)
        if is_thick is None:
            raise BadLetters(beginning)
        if not isinstance(ring, str) or not 1 <= len(ring) <= MOST_PASSED:
            raise BadLetters(ring)
        if kind_climbed_to(is_thick, ring + ring) is None:
            raise BadLetters(ring)
        plain_beginning, plain_ring = _plain_writing(beginning, ring)
        self.half = half
        self.beginning = plain_beginning
        self.ring = plain_ring

    def __eq__(self, other):
        if not isinstance(other, Address) or self.half != other.half:
            return False
        return self.beginning == other.beginning and self.ring == other.ring


def _shortest_ring(ring):
    """The shortest string that gives the ring if it is written again and again."""
    many = 1
    while len(ring) % many != 0 or ring[:many] * (len(ring) // many) != ring:
        many += 1
    return ring[:many]


def _plain_writing(beginning, ring):
    """The beginning and the ring of the same letters, with the shortest ring and then the shortest beginning."""
    ring = _shortest_ring(ring)
    many = len(beginning)
    turns = 0
    # Letters at the end of the beginning that are those of the ring belong to it.
    while many > 0 and beginning[many - 1] == ring[-1 - turns % len(ring)]:
        many -= 1
        turns += 1
    start = -turns % len(ring)
    return beginning[:many], ring[start:] + ring[:start]


def letter_at(address, number):
    """The letter with this number, from 0 on."""
    if not is_plain_integer(number) or number < 0:
        raise BadCount(number)
    if number < len(address.beginning):
        return address.beginning[number]
    return address.ring[(number - len(address.beginning)) % len(address.ring)]


def _place_of(floor, half):
    """What is the same for two half tiles, each in its floor, exactly if both are led to one another by one step."""
    foot, r, s = half
    shadow = shadow_of(foot)
    rests = (minus(shadow[0], floor.all_keys[0]), minus(shadow[1], floor.all_keys[1]))
    return (rests, sum(foot), r, s, floor.side)


def _letters_told(floor, half):
    """The plain writing of the address of a half tile in a floor, as a beginning and a ring."""
    places = {}
    letters = []
    place = _place_of(floor, half)
    while place not in places:
        places[place] = len(letters)
        floor = gathered(floor)
        letter, half = parent_in(floor, half)
        letters.append(letter)
        place = _place_of(floor, half)
    start = places[place]
    return _plain_writing("".join(letters[:start]), "".join(letters[start:]))


def address_of(floor, half, *, most=1000):
    """The address of a half tile in a floor."""
    need_half_of(floor, half)
    beginning, ring = _letters_told(floor, half)
    if len(beginning) + len(ring) > most:
        raise TooMany(most)
    # What a floor tells may have more letters than may be passed, so it is set behind the checks.
    address = Address(half, "", FITTING_RINGS[1 if is_thick_half(half) else 0])
    address.beginning = beginning
    address.ring = ring
    return address


def _climbed_by(half, letters):
    for letter in letters:
        half = climbed_once(half, letter)
    return half


def _power_of(number, many):
    total = ONE
    for _ in range(many):
        total = times(total, number)
    return total


def keys_of(address):
    """The pair of the keys 0 and 1 of the floor that the address tells."""
    start = _climbed_by(address.half, address.beginning)
    half = _climbed_by(start, address.ring)
    many = len(address.ring)
    # As soon as the level and the directions are the same again, the rests are, too.
    while (sum(half[0]), half[1], half[2]) != (sum(start[0]), start[1], start[2]):
        half = _climbed_by(half, address.ring)
        many += len(address.ring)
    growth = _power_of(KEY_RULE, many)
    led_back = _power_of(CUTTING, len(address.beginning))
    shadow = shadow_of(start[0])
    shadow_behind = shadow_of(half[0])
    keys = []
    for r in (0, 1):
        # The keys are shadow less rest here, and growth times these there.
        difference = minus(shadow_behind[r], times(growth, shadow[r]))
        rest = quotient(difference, minus(ONE, growth))
        keys.append(times(led_back, minus(shadow[r], rest)))
    return (keys[0], keys[1])


def _does_tell(floor, address):
    """Whether a half tile of the floor has this address in it."""
    half = address.half
    if not has_half(floor, half):
        return False
    places = {}
    number = 0
    place = (number, _place_of(floor, half))
    while place not in places:
        places[place] = True
        floor = gathered(floor)
        letter, half = parent_in(floor, half)
        if letter != letter_at(address, number):
            return False
        number += 1
        if number >= len(address.beginning) + len(address.ring):
            number -= len(address.ring)
        place = (number, _place_of(floor, half))
    return True


def floor_of_address(address):
    """The one floor that has the half tile with this address."""
    one, other = keys_of(address)
    all_sides = sides(one, other)
    if len(all_sides) == 1:
        return Floor(one, other)
    floors = [Floor(one, other, side) for side in all_sides]
    return [floor for floor in floors if _does_tell(floor, address)][0]


def judge_meeting(floor, one, other):
    """A paper that says whether two half tiles of the floor meet."""
    need_half_of(floor, one)
    need_half_of(floor, other)
    places = {}
    many = 0
    while one != other:
        place = (_place_of(floor, one), _place_of(floor, other))
        if place in places:
            return ("never", places[place], many - places[place])
        places[place] = many
        floor = gathered(floor)
        one = parent_in(floor, one)[1]
        other = parent_in(floor, other)[1]
        many += 1
    return ("meet", many)


def meeting_holds(floor, one, other, thing):
    """Whether any value is a right paper for two half tiles of the floor."""
    paper = judge_meeting(floor, one, other)
    if not is_tuple_of(thing, len(paper)) or not all([is_plain_integer(part) for part in thing[1:]]):
        return False
    if paper[0] == "meet":
        return thing == paper
    # The paper that is made tells the least numbers: where all comes round for the first time, and how soon.
    kind, start, many = thing
    return kind == "never" and start >= paper[1] and many >= 1 and many % paper[2] == 0
