"""The errors of the package, each with what was passed as its attributes."""


class FloorError(Exception):
    """The base class of all errors of the package."""


class TooMany(FloorError):
    """A tuple would have more items than it may."""

    def __init__(self, most):
        self.most = most


class BadNumber(FloorError):
    """Not a golden number of the kind that is asked for."""

    def __init__(self, thing):
        self.thing = thing


class DividedByZero(FloorError):
    """A golden number was to be divided by zero."""


class BadPower(FloorError):
    """Not an exponent."""

    def __init__(self, thing):
        self.thing = thing


class BadText(FloorError):
    """Not the text of what is read; the line is 0 for what is no string."""

    def __init__(self, line):
        self.line = line


class BadDirection(FloorError):
    """Not a direction of the kind that is asked for."""

    def __init__(self, thing):
        self.thing = thing


class BadRow(FloorError):
    """Not a row of five integers."""

    def __init__(self, thing):
        self.thing = thing


class BadCorner(FloorError):
    """Not a corner of the kind that is asked for."""

    def __init__(self, thing):
        self.thing = thing


class BadStep(FloorError):
    """Not a step."""

    def __init__(self, thing):
        self.thing = thing


class BadPoint(FloorError):
    """Not a point."""

    def __init__(self, thing):
        self.thing = thing


class BadMotion(FloorError):
    """Not a motion."""

    def __init__(self, thing):
        self.thing = thing


class BadSide(FloorError):
    """Not a side of a floor with these keys."""

    def __init__(self, thing):
        self.thing = thing


class BadTile(FloorError):
    """Not a tile of the kind that is asked for."""

    def __init__(self, thing):
        self.thing = thing


class BadEdge(FloorError):
    """Not an edge of the kind that is asked for."""

    def __init__(self, thing):
        self.thing = thing


class BadCount(FloorError):
    """Not a number of the kind that is asked for."""

    def __init__(self, thing):
        self.thing = thing


class BadShifts(FloorError):
    """Not shifts."""

    def __init__(self, thing):
        self.thing = thing


class AtTheEdge(FloorError):
    """The floor is at the edge: these keys are whole."""

    def __init__(self, directions):
        self.directions = directions


class NotAtTheEdge(FloorError):
    """The key is not whole."""


class BadPatch(FloorError):
    """Not a patch."""

    def __init__(self, thing):
        self.thing = thing


class Dead(FloorError):
    """No floor has it, as the paper shows."""

    def __init__(self, paper):
        self.paper = paper


class BadHalf(FloorError):
    """Not a half tile of the kind that is asked for."""

    def __init__(self, thing):
        self.thing = thing


class BadLetters(FloorError):
    """Not letters that fit."""

    def __init__(self, thing):
        self.thing = thing


class BadLine(FloorError):
    """Not a line of the kind that is asked for."""

    def __init__(self, thing):
        self.thing = thing


class BadLevel(FloorError):
    """Not a level."""

    def __init__(self, thing):
        self.thing = thing


class BadStar(FloorError):
    """Not a star."""

    def __init__(self, thing):
        self.thing = thing


class BadBar(FloorError):
    """Not a bar of the kind that is asked for."""

    def __init__(self, thing):
        self.thing = thing


class BadBars(FloorError):
    """Not a tuple of told bars."""

    def __init__(self, thing):
        self.thing = thing


class BadGaps(FloorError):
    """Not gaps."""

    def __init__(self, thing):
        self.thing = thing


class BadPhase(FloorError):
    """Not a phase."""

    def __init__(self, thing):
        self.thing = thing


class BadHexagon(FloorError):
    """Not a hexagon."""

    def __init__(self, thing):
        self.thing = thing


class NoWorm(FloorError):
    """The floor has no worm of this direction."""

    def __init__(self, direction):
        self.direction = direction


class NoSuchSide(FloorError):
    """Not a side of floors with these keys."""

    def __init__(self, thing):
        self.thing = thing


class Laid(FloorError):
    """The tile lies there already."""

    def __init__(self, thing):
        self.thing = thing


class Full(FloorError):
    """There is no room for one more."""


class Overlaps(FloorError):
    """The tile overlaps another one."""

    def __init__(self, other):
        self.other = other


class Unfit(FloorError):
    """The tile does not fit another one."""

    def __init__(self, other):
        self.other = other


class NotLaid(FloorError):
    """It does not lie there."""

    def __init__(self, thing):
        self.thing = thing


class LastCorner(FloorError):
    """The patch has no other corner."""


class NothingToUndo(FloorError):
    """Nothing was done that can be undone."""


class NothingToRedo(FloorError):
    """Nothing was undone that can be done again."""


class BadName(FloorError):
    """Not a name."""

    def __init__(self, thing):
        self.thing = thing


class NoName(FloorError):
    """The name stands for nothing of this kind."""

    def __init__(self, name):
        self.name = name


class NameTaken(FloorError):
    """The name stands for something already."""

    def __init__(self, name):
        self.name = name


class InUse(FloorError):
    """A promise has the name."""

    def __init__(self, name):
        self.name = name


class BadPromise(FloorError):
    """Not a promise that can be given."""

    def __init__(self, thing):
        self.thing = thing


class NoPromise(FloorError):
    """Not a promise that is given."""

    def __init__(self, thing):
        self.thing = thing


class Unkept(FloorError):
    """The promise would not be kept, as the fault shows."""

    def __init__(self, promise, fault):
        self.promise = promise
        self.fault = fault


class BadChange(FloorError):
    """The change with this number cannot be made."""

    def __init__(self, number):
        self.number = number
