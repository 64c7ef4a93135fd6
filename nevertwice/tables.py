"""Tables on which tiles are laid by hand."""

from nevertwice.bounds import bounds_of
from nevertwice.checks import is_ascending, is_direction, is_tuple_of
from nevertwice.corners import is_corner_row
from nevertwice.errors import (BadEdge, BadText, Dead, FloorError, Full, Laid, NothingToRedo, NothingToUndo,
                               NotLaid, Overlaps, Unfit)
from nevertwice.fives import stepped
from nevertwice.golden import sign_of_parts
from nevertwice.numerals import integer_text, integer_written
from nevertwice.regions import bounds_together, empty_paper, judge_region
from nevertwice.tiles import corners_of, does_fit, edges_of, is_left, is_tile_row, need_tile

MOST_TILES = 16
# The keys 0 and 1 of some regular floor.
SOME_KEYS = ((1, 0, 3), (1, 0, 3))


def _far_corner(tile, direction, offsets):
    """The corner of a tile that lies furthest beside a direction, on the side to which these offsets lead."""
    row = tile[0]
    for j in tile[1:]:
        if (j - direction) % 5 in offsets:
            row = stepped(row, j, 1)
    return row


def _is_beside(one, other, direction):
    """Whether no corner of one lies further beside a direction than any corner of other."""
    highest = _far_corner(one, direction, (1, 2))
    lowest = _far_corner(other, direction, (3, 4))
    # c[d + 1] - c[d - 1] of a row is (2 g - 1) / 2 times a + b g with these two differences.
    row = [part - against for part, against in zip(lowest, highest)]
    near = row[(direction + 1) % 5] - row[direction - 1]
    far = row[(direction + 2) % 5] - row[direction - 2]
    return sign_of_parts(far, near) >= 0


def do_overlap(one, other):
    """Whether two tiles overlap."""
    need_tile(one)
    need_tile(other)
    if one == other:
        return True
    for direction in one[1:] + other[1:]:
        if _is_beside(one, other, direction) or _is_beside(other, one, direction):
            return False
    return True


def _do_disagree(one, other):
    """Whether two tiles have an edge in common at which they do not fit."""
    edges = edges_of(one)
    return any([edge in edges for edge in edges_of(other)]) and not does_fit(one, other)


def _has_room(tiles, tile):
    """Whether a tile overlaps none of these tiles, and fits those with which it has an edge in common."""
    return not any([do_overlap(tile, other) or _do_disagree(tile, other) for other in tiles])


def _corners_of_all(tiles):
    return [corner for tile in tiles for corner in corners_of(tile)]


def _bounds_of_all(tiles):
    return bounds_of(_corners_of_all(tiles))


def _is_dead(tiles):
    """Whether no floor has all of these tiles."""
    return empty_paper(_bounds_of_all(tiles)) is not None


def _without(tiles, tile):
    return tuple([other for other in tiles if other != tile])


def _core_of(tiles):
    """The tiles of a core of dead tiles, in their order."""
    core = tiles
    for tile in tiles:
        if _is_dead(_without(core, tile)):
            core = _without(core, tile)
    return core


def _beside_edge(edge, is_on_left):
    """The tiles, be they in a floor or not, that have an edge and lie on one side of it."""
    corner, j = edge
    found = []
    for further in range(1, 5):
        s = (j + further) % 5
        foot = corner if (further <= 2) == is_on_left else stepped(corner, s, -1)
        tile = (foot, min(j, s), max(j, s))
        if is_tile_row(tile):
            found.append(tile)
    return sorted(found)


def _open_edges_of(tiles):
    """The ascending tuple of the edges that exactly one tile has, each with whether it lies right of it."""
    owners = {}
    for tile in tiles:
        for edge in edges_of(tile):
            owners.setdefault(edge, []).append(tile)
    return tuple(sorted([(edge, not is_left(owners[edge][0], edge)) for edge in owners if len(owners[edge]) == 1]))


def _living_choices(bounds, edge, is_on_left, known):
    """The tiles on one side of an edge that live with the tiles that have these bounds; what is found out is noted."""
    # A floor that has the tiles and such a one has no other on this side: it overlaps none of them and fits.
    choices = _beside_edge(edge, is_on_left)
    for tile in choices:
        if tile not in known:
            known[tile] = empty_paper(bounds_together(bounds, _bounds_of_all((tile,)))) is None
    return [tile for tile in choices if known[tile]]


def _forced_on(tiles, bounds, known):
    """The ascending tuple of the forced tiles, the bounds being those of the tiles."""
    found = {}
    for edge, is_on_left in _open_edges_of(tiles):
        living = _living_choices(bounds, edge, is_on_left, known)
        if len(living) == 1:
            found[living[0]] = True
    return tuple(sorted(found))


def _read_tile(line):
    """The tile of a line of a text, None for any other line."""
    words = line.split(" ")
    numbers = [integer_written(word) for word in words[1:]]
    if words[0] != "tile" or len(numbers) != 7 or None in numbers:
        return None
    return (tuple(numbers[:5]), numbers[5], numbers[6])


def _tile_text(tile):
    foot, r, s = tile
    return " ".join(["tile"] + [integer_text(part) for part in foot + (r, s)])


class Table:
    """A table, at first without tiles and deeds."""

    def __init__(self):
        self._lying = ()
        # How the tiles lay ahead of each deed that was done, and behind each one that was undone.
        self._before = []
        self._undone = []

    def __eq__(self, other):
        return isinstance(other, Table) and self._lying == other._lying

    def __str__(self):
        return "\n".join(["table"] + [_tile_text(tile) for tile in self._lying])

    @classmethod
    def read(cls, text):
        """The table of a text, without deeds."""
        if not isinstance(text, str):
            raise BadText(0)
        lines = text.split("\n")
        if lines[0] != "table":
            raise BadText(1)
        table = cls()
        for number, line in enumerate(lines[1:], 2):
            try:
                table._put(_read_tile(line))
            except FloorError as error:
                raise BadText(number) from error
        return table

    def copy(self):
        """An equal table with the same deeds, done and undone."""
        other = Table()
        other._lying = self._lying
        other._before = list(self._before)
        other._undone = list(self._undone)
        return other

    def tiles(self):
        """The tuple of the tiles, in order."""
        return self._lying

    def patch(self):
        """The ascending tuple of the corners of the tiles."""
        return tuple(sorted({corner: True for corner in _corners_of_all(self._lying)}))

    def _do(self, lying):
        """Does a deed behind which the tiles lie like this."""
        self._before.append(self._lying)
        self._undone = []
        self._lying = lying

    def _need_room(self, tile):
        """Raises the errors for any value that cannot be laid."""
        need_tile(tile)
        if tile in self._lying:
            raise Laid(tile)
        if len(self._lying) >= MOST_TILES:
            raise Full()
        for other in self._lying:
            if do_overlap(tile, other):
                raise Overlaps(other)
        for other in self._lying:
            if _do_disagree(tile, other):
                raise Unfit(other)

    def _put(self, tile):
        """Lays a tile without a deed."""
        self._need_room(tile)
        self._lying = self._lying + (tile,)

    def lay(self, tile):
        """Lays a tile behind all others."""
        self._need_room(tile)
        self._do(self._lying + (tile,))

    def take(self, tile):
        """Takes a tile off."""
        if not is_tile_row(tile) or tile not in self._lying:
            raise NotLaid(tile)
        self._do(_without(self._lying, tile))

    def undo(self):
        """Undoes the last deed."""
        if len(self._before) == 0:
            raise NothingToUndo()
        self._undone.append(self._lying)
        self._lying = self._before.pop()

    def redo(self):
        """Does the deed again that was undone last."""
        if len(self._undone) == 0:
            raise NothingToRedo()
        self._before.append(self._lying)
        self._lying = self._undone.pop()

    def does_live(self):
        """Whether some floor has all tiles."""
        return not _is_dead(self._lying)

    def judge(self):
        """A paper that says whether some floor has all tiles."""
        if len(self._lying) == 0:
            return ("lives",) + SOME_KEYS
        return judge_region(_bounds_of_all(self._lying))

    def died(self):
        """The least number of the first tiles that are dead, None if the table lives."""
        for many in range(1, len(self._lying) + 1):
            if _is_dead(self._lying[:many]):
                return many
        return None

    def core(self):
        """A core, None if the table lives."""
        if not _is_dead(self._lying):
            return None
        return tuple(sorted(_core_of(self._lying)))

    def core_holds(self, thing):
        """Whether any value is a core of the table."""
        if not isinstance(thing, tuple) or not all([is_tile_row(part) for part in thing]):
            return False
        if not all([part in self._lying for part in thing]) or not is_ascending(thing) or not _is_dead(thing):
            return False
        return not any([_is_dead(_without(thing, part)) for part in thing])

    def open_edges(self):
        """The ascending tuple of the open edges, each with whether its open side is left."""
        return _open_edges_of(self._lying)

    def _open_side(self, edge):
        """Whether the open side of an edge is left; raises the error for any value that is not an open edge."""
        if is_tuple_of(edge, 2) and is_corner_row(edge[0]) and is_direction(edge[1]):
            for other, is_on_left in _open_edges_of(self._lying):
                if other == edge:
                    return is_on_left
        raise BadEdge(edge)

    def fitting(self, edge):
        """The ascending tuple of the fitting choices at an open edge."""
        choices = _beside_edge(edge, self._open_side(edge))
        return tuple([tile for tile in choices if _has_room(self._lying, tile)])

    def living(self, edge):
        """The ascending tuple of the living choices at an open edge."""
        is_on_left = self._open_side(edge)
        return tuple(_living_choices(_bounds_of_all(self._lying), edge, is_on_left, {}))

    def _living_bounds(self):
        """The bounds of the tiles; raises the error if they are dead."""
        bounds = _bounds_of_all(self._lying)
        paper = empty_paper(bounds)
        if paper is not None:
            raise Dead(paper)
        return bounds

    def forced(self):
        """The ascending tuple of all forced tiles."""
        return _forced_on(self._lying, self._living_bounds(), {})

    def grow(self):
        """Lets the table grow, and returns the tuple of the tiles that it lays."""
        bounds = self._living_bounds()
        # Forced tiles leave the floors that have all tiles as they are, so what lived at first lives on.
        known = {}
        lying = self._lying
        forced = _forced_on(lying, bounds, known)
        while len(lying) < MOST_TILES and len(forced) > 0:
            lying = lying + forced[:1]
            forced = _forced_on(lying, bounds, known)
        laid = lying[len(self._lying):]
        self._do(lying)
        return laid
