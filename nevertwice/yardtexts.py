"""The texts of yards, and how they are read line by line."""

from nevertwice.bounds import MOST_CORNERS
from nevertwice.corners import is_corner_row
from nevertwice.errors import BadText
from nevertwice.floors import Floor
from nevertwice.numerals import integer_text, integer_written
from nevertwice.promises import DIRECTION, PROMISES, is_name, is_promise


def _thing_lines(name, thing):
    """The lines for one name."""
    if isinstance(thing, Floor):
        return ["floor " + name + str(thing).removeprefix("floor")]
    corners = [" ".join(["corner"] + [integer_text(part) for part in corner]) for corner in thing]
    return ["patch " + name] + corners


def _promise_line(promise):
    return " ".join([part if isinstance(part, str) else integer_text(part) for part in promise])


def yard_text(things, promises):
    """The text of a yard with these things and promises."""
    lines = ["yard"]
    for name in sorted(things):
        lines.extend(_thing_lines(name, things[name]))
    lines.extend([_promise_line(promise) for promise in promises])
    return "\n".join(lines)


def _promise_written(words):
    """The promise that the words of a line tell, None if their number is wrong."""
    if words[0] not in PROMISES or len(words) != 1 + len(PROMISES[words[0]]):
        return None
    parts = [integer_written(word) if kind == DIRECTION else word
             for word, kind in zip(words[1:], PROMISES[words[0]])]
    return (words[0],) + tuple(parts)


class Reading:
    """What was read of the text of a yard behind its first line."""

    def __init__(self):
        self.found = {}
        self.given = []
        self._last_name = ""
        # The name of the patch to which a line with a corner would belong.
        self._patch_name = None

    def is_bare(self):
        """Whether the last line was that of a patch, which has no corner yet."""
        return self._patch_name is not None and len(self.found[self._patch_name]) == 0

    def does_take(self, line):
        """Takes one more line if it can stand there, and tells whether it can."""
        words = line.split(" ")
        if words[0] == "corner":
            return self._does_take_corner(words)
        if self.is_bare():
            return False
        self._patch_name = None
        if words[0] in ("floor", "patch"):
            return self._does_take_name(words)
        promise = _promise_written(words)
        if not is_promise(self.found, promise) or promise in self.given:
            return False
        self.given.append(promise)
        return True

    def _does_take_corner(self, words):
        corner = tuple([integer_written(word) for word in words[1:]])
        if self._patch_name is None or not is_corner_row(corner):
            return False
        corners = self.found[self._patch_name]
        if len(corners) >= MOST_CORNERS or (len(corners) > 0 and corner <= corners[-1]):
            return False
        self.found[self._patch_name] = corners + (corner,)
        return True

    def _does_take_name(self, words):
        if len(self.given) > 0 or len(words) < 2 or not is_name(words[1]) or words[1] <= self._last_name:
            return False
        name = words[1]
        if words[0] == "patch":
            if len(words) != 2:
                return False
            self._patch_name = name
            self.found[name] = ()
        else:
            try:
                self.found[name] = Floor.read(" ".join(["floor"] + words[2:]))
            except BadText:
                return False
        self._last_name = name
        return True
