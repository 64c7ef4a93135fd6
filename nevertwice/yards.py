"""Yards: floors and patches behind names, and promises that are kept behind each deal."""

from nevertwice.changes import is_change, made, named_thing
from nevertwice.errors import (BadChange, BadPromise, BadText, FloorError, NothingToRedo, NothingToUndo, Unkept)
from nevertwice.promises import FLOOR, PATCH, does_fault_hold, fault_of, first_unkept, is_promise
from nevertwice.yardtexts import Reading, yard_text


def _need_kept(things, promises):
    """Raises the error if a promise is not kept."""
    unkept = first_unkept(things, promises)
    if unkept is not None:
        promise, fault = unkept
        raise Unkept(promise, fault)


class Yard:
    """A yard, at first without names and promises."""

    def __init__(self):
        # The things and promises are never changed, but replaced by others.
        self._things = {}
        self._given = ()
        # Each deal that was done with what was ahead of it, and each one undone with what was behind it.
        self._done = []
        self._undone = []

    def __eq__(self, other):
        return isinstance(other, Yard) and self._things == other._things and self._given == other._given

    def __str__(self):
        return str(yard_text(self._things, self._given))

    @classmethod
    def read(cls, text):
        """The yard of a text, without deals."""
        if not isinstance(text, str):
            raise BadText(0)
        lines = text.split("\n")
        if lines[0] != "yard":
            raise BadText(1)
        reading = Reading()
        for number, line in enumerate(lines[1:], 2):
            if not reading.does_take(line):
                raise BadText(number)
        if reading.is_bare():
            raise BadText(len(lines) + 1)
        # The promises are the last lines.
        for number, promise in enumerate(reading.given, len(lines) - len(reading.given) + 1):
            if fault_of(reading.found, promise) is not None:
                raise BadText(number)
        yard = cls()
        yard._things = reading.found
        yard._given = tuple(reading.given)
        return yard

    def copy(self):
        """An equal yard with the same deals, done and undone."""
        other = Yard()
        other._things = self._things
        other._given = self._given
        other._done = list(self._done)
        other._undone = list(self._undone)
        return other

    def names(self):
        """The ascending tuple of the names."""
        return tuple(sorted(self._things))

    def floor(self, name):
        """The floor behind a name."""
        return named_thing(self._things, name, FLOOR)

    def patch(self, name):
        """The patch behind a name."""
        return named_thing(self._things, name, PATCH)

    def promises(self):
        """The tuple of the promises, in the order in which they were given."""
        return self._given

    def deals(self):
        """The tuple of the deals that were done, in order."""
        return tuple([changes for changes, _, _ in self._done])

    def _behind(self, changes):
        """The things and the promises behind changes; raises the errors for any value that cannot be done."""
        if not isinstance(changes, tuple):
            raise BadChange(-1)
        things = self._things
        given = self._given
        for number, change in enumerate(changes):
            if not is_change(change):
                raise BadChange(number)
            try:
                things, given = made(things, given, change)
            except FloorError as error:
                raise BadChange(number) from error
        return things, given

    def _do(self, changes, things, given):
        """Does a deal behind which things and promises are these, if all promises are kept."""
        _need_kept(things, given)
        self._done.append((changes, self._things, self._given))
        self._undone = []
        self._things = things
        self._given = given

    def deal(self, changes):
        """Does a deal."""
        things, given = self._behind(changes)
        self._do(changes, things, given)

    def change(self, change):
        """Does a deal of one change."""
        if not is_change(change):
            raise BadChange(0)
        things, given = made(self._things, self._given, change)
        self._do((change,), things, given)

    def would(self, changes):
        """The first promise that would not be kept behind a deal, with a right fault; None if all would be."""
        things, given = self._behind(changes)
        return first_unkept(things, given)

    def undo(self):
        """Undoes the last deal."""
        if len(self._done) == 0:
            raise NothingToUndo()
        changes, things, given = self._done.pop()
        self._undone.append((changes, self._things, self._given))
        self._things = things
        self._given = given

    def redo(self):
        """Does the deal again that was undone last."""
        if len(self._undone) == 0:
            raise NothingToRedo()
        changes, things, given = self._undone.pop()
        self._done.append((changes, self._things, self._given))
        self._things = things
        self._given = given

    def judged(self, promise):
        """("kept",) or a right fault of a promise, given or not."""
        if not is_promise(self._things, promise):
            raise BadPromise(promise)
        fault = fault_of(self._things, promise)
        return ("kept",) if fault is None else fault


def fault_holds(yard, promise, thing):
    """Whether any value is a right fault of a promise, be it given or not."""
    return is_promise(yard._things, promise) and does_fault_hold(yard._things, promise, thing)
