"""Part 11: yards, their promises, changes, deals and texts."""

import itertools
import unittest

from nevertwice.corners import done
from nevertwice.errors import (BadChange, BadCorner, BadDirection, BadMotion, BadName, BadPromise, BadStep, BadText,
                               FloorError, Full, InUse, LastCorner, NameTaken, NoName, NoPromise, NothingToRedo,
                               NothingToUndo, NotLaid, NoWorm, Unkept)
from nevertwice.floors import Floor, has_corner, home_of, sides, whole_keys
from nevertwice.gathering import cut_floor, gathered
from nevertwice.moving import floor_done, judge_move, move_holds, moved
from nevertwice.edges import sides_beside, turned
from nevertwice.bounds import has_patch
from nevertwice.patches import a_floor, does_live, patch_holds
from nevertwice.sure import is_sure
from nevertwice.tiles import round_about
from nevertwice.yards import Yard, fault_holds
from tests.patch_samples import (FAR_STEP, KINDS, T, added, far_off, four_tiles_patch, led_patch, not_patches,
                                 right_papers, told_bounds)
from tests.samples import (ALL_WHOLE, E, W, check_error, edge_floors, odd_values, regular_floors, spoiled)

P = ((0, 0, 1, 0, 0), (0, 0, 1, 0, 1))
DEAD_ONE = four_tiles_patch()
STEP = (1, -1, 0, 0, 0)
AROUND = round_about(E, home_of(E), 5)
FLOORS = {"e": E, "w": W, "all": ALL_WHOLE, "f": moved(E, STEP), "reg": regular_floors()[2]}
PATCHES = {"p": P, "t": T, "dead": DEAD_ONE, "big": AROUND[:64], "one": ((1, 0, 0, 0, 0),), "two": AROUND[:2],
           "off": far_off(P)}
NOT_NAMES = [thing for thing in odd_values() if thing != "a"] + [
    "A", "aB", "abcdefghi", "a1", "a b", " a", "a\n", "-", "_", ["e"], ("e",), 0]


def filled():
    """A yard with floors and patches of all kinds, and without promises."""
    yard = Yard()
    changes = [("floor", name, floor) for name, floor in FLOORS.items()]
    changes.extend([("patch", name, patch) for name, patch in PATCHES.items()])
    yard.deal(tuple(changes[:8]))
    yard.deal(tuple(changes[8:]))
    return yard


def all_promises():
    """All promises about the names of the filled yard."""
    found = [("regular", name) for name in FLOORS] + [("lives", name) for name in PATCHES]
    found.extend([("has", one, other) for one in FLOORS for other in PATCHES])
    found.extend([("same", one, other) for one in FLOORS for other in FLOORS])
    found.extend([(kind, one, other) for kind in ("follows", "never") for one in PATCHES for other in PATCHES])
    found.extend([("worm", name, r) for name in FLOORS for r in range(5)])
    return found


def is_kept_by(promise):
    """Whether a promise about the filled yard is kept, by the words of [11.2]."""
    kind = promise[0]
    if kind == "regular":
        return whole_keys(FLOORS[promise[1]]) == ()
    if kind == "has":
        return has_patch(FLOORS[promise[1]], PATCHES[promise[2]])
    if kind == "lives":
        return does_live(PATCHES[promise[1]])
    if kind == "same":
        return judge_move(FLOORS[promise[1]], FLOORS[promise[2]])[0] == "moved"
    if kind == "worm":
        return promise[2] in [r for r, _ in sides_beside(FLOORS[promise[1]])]
    one, other = PATCHES[promise[1]], PATCHES[promise[2]]
    if kind == "follows":
        return not does_live(one) or all([is_sure(one, corner) for corner in other])
    return len(right_papers(*told_bounds(one + other))) > 0


def raised(call, *args):
    """The class and the attributes of the error of a call, None if there is none."""
    try:
        call(*args)
    except FloorError as error:
        return type(error), vars(error)
    return None


class Names(unittest.TestCase):
    def test_names_and_what_they_stand_for(self):
        yard = filled()
        self.assertEqual(Yard().names(), ())
        self.assertEqual(yard.names(), tuple(sorted([*FLOORS, *PATCHES])))
        for name, floor in FLOORS.items():
            self.assertEqual(yard.floor(name=name), floor)
            check_error(self, NoName, {"name": name}, yard.patch, name)
        for name, patch in PATCHES.items():
            self.assertEqual(yard.patch(name=name), patch)
            check_error(self, NoName, {"name": name}, yard.floor, name)
        for thing in NOT_NAMES + ["zz", "a"]:
            check_error(self, NoName, {"name": thing}, yard.floor, thing)
            check_error(self, NoName, {"name": thing}, yard.patch, name=thing)

    def test_equal_yards_and_copies(self):
        one = filled()
        other = Yard()
        other.deal(tuple([("patch", name, PATCHES[name]) for name in sorted(PATCHES, reverse=True)]))
        for name in sorted(FLOORS):
            other.change(("floor", name, FLOORS[name]))
        self.assertTrue(one == other and not one != other)
        promises = (("regular", "e"), ("lives", "p"))
        one.deal(tuple([("promise", promise) for promise in promises]))
        self.assertTrue(one != other)
        other.deal(tuple([("promise", promise) for promise in promises[::-1]]))
        self.assertTrue(one != other and not one == other)
        for thing in odd_values() + [str(one)]:
            self.assertFalse(one == thing)
            self.assertTrue(one != thing)

    def test_copies_go_their_own_way(self):
        yard = filled()
        yard.undo()
        other = yard.copy()
        self.assertEqual((other, other.deals()), (yard, yard.deals()))
        other.redo()
        self.assertNotEqual(other, yard)
        other.change(("drop", "e"))
        yard.redo()
        self.assertEqual(yard.floor("e"), E)
        self.assertEqual(yard, filled())
        check_error(self, NothingToRedo, {}, other.redo)
        other.undo()
        other.undo()
        other.undo()
        check_error(self, NothingToUndo, {}, other.undo)
        self.assertEqual(len(yard.deals()), 2)


class Promises(unittest.TestCase):
    def test_kept_ones_and_faults(self):
        yard = filled()
        kinds = set()
        for promise in all_promises():
            right = is_kept_by(promise)
            found = yard.judged(promise=promise)
            kinds.add((promise[0], right))
            self.assertEqual(found == ("kept",), right, promise)
            self.assertIs(fault_holds(yard, promise, found), not right)
            if not right:
                self.check_fault(promise, found)
        self.assertEqual(len(kinds), 14)

    def check_fault(self, promise, fault):
        kind = promise[0]
        if kind == "regular":
            self.assertEqual(fault, ("edge", whole_keys(FLOORS[promise[1]])))
        elif kind == "has":
            lacking = [corner for corner in PATCHES[promise[2]] if not has_corner(FLOORS[promise[1]], corner)]
            self.assertEqual(fault, ("lacks", lacking[0]))
        elif kind == "lives":
            self.assertIs(patch_holds(PATCHES[promise[1]], fault), True)
            self.assertNotEqual(fault[0], "lives")
        elif kind == "same":
            self.assertIs(move_holds(FLOORS[promise[1]], FLOORS[promise[2]], fault), True)
        elif kind == "worm":
            self.assertEqual(fault, ("no worm",))
        else:
            floor = Floor(fault[1], fault[2])
            self.assertEqual(whole_keys(floor), ())
            self.assertIs(has_patch(floor, PATCHES[promise[1]]), True)
            if kind == "never":
                self.assertEqual((len(fault), fault[0]), (3, "both"))
                self.assertIs(has_patch(floor, PATCHES[promise[2]]), True)
            else:
                self.assertEqual((len(fault), fault[0]), (4, "parted"))
                self.assertIn(fault[3], PATCHES[promise[2]])
                self.assertIs(has_corner(floor, fault[3]), False)

    def test_only_right_faults_are_accepted(self):
        yard = filled()
        for promise in all_promises()[::3]:
            found = yard.judged(promise)
            wrong = odd_values() + [("kept",), ("no worm", 0), ("edge", ()), ("edge", (True,)), ("sides", 0),
                                    ("moved",), [], "no worm"]
            wrong.extend([thing for thing in spoiled(found) if thing != found])
            for thing in wrong:
                if not self.is_right_by_chance(yard, promise, thing):
                    self.assertIs(fault_holds(yard, promise, thing), False, (promise, thing))

    def is_right_by_chance(self, yard, promise, thing):
        """Whether a spoiled fault is still one: another corner of the patch, keys that are spoiled to right ones."""
        if not isinstance(thing, tuple) or thing[:1] not in (("parted",), ("both",)):
            return False
        return fault_holds(yard, promise, thing) and all([type(part) is tuple for part in thing[1:]])

    def test_edge_faults(self):
        yard = filled()
        for thing, right in ((("edge", (0,)), True), (("edge", (False,)), False), (("edge", [0]), False),
                             (("edge", (1,)), False), (("edge", (0, 1, 2, 3, 4)), False), (["edge", (0,)], False)):
            self.assertIs(fault_holds(yard, ("regular", "w"), thing), right)
        self.assertIs(fault_holds(yard, ("regular", "all"), ("edge", (0, 1, 2, 3, 4))), True)
        self.assertIs(fault_holds(yard, ("regular", "all"), ("edge", (0, True, 2, 3, 4))), False)
        self.assertIs(fault_holds(yard, ("regular", "e"), ("edge", ())), False)
        for word in ("Edge", "lacks", None, ("edge",)):
            self.assertIs(fault_holds(yard, ("regular", "w"), (word, (0,))), False)
        self.assertIs(fault_holds(yard, ("worm", "w", 0), ("no worm",)), False)
        self.assertIs(fault_holds(yard, ("worm", "w", 1), ("no worm",)), True)

    def test_lack_faults(self):
        yard = filled()
        yard.change(("patch", "lack", ((0, 0, 0, 0, 1), (0, 0, 0, 1, 0), (0, 0, 1, 0, 0), (5, 0, 0, 0, -4))))
        lacking = [corner for corner in yard.patch("lack") if not has_corner(E, corner)]
        self.assertGreater(len(lacking), 1)
        for corner in yard.patch("lack"):
            self.assertIs(fault_holds(yard, ("has", "e", "lack"), ("lacks", corner)), corner == lacking[0])
        spoilt = tuple([bool(part) if part in (0, 1) else part for part in lacking[0]])
        self.assertIs(fault_holds(yard, ("has", "e", "lack"), ("lacks", spoilt)), False)

    def test_dead_faults(self):
        yard = filled()
        for kind, r in itertools.product(KINDS, range(-1, 6)):
            right = 0 <= r < 5 and patch_holds(DEAD_ONE, (kind, r))
            self.assertIs(fault_holds(yard, ("lives", "dead"), (kind, r)), right)
            self.assertIs(fault_holds(yard, ("lives", "p"), (kind, r)), False)
        self.assertIs(fault_holds(yard, ("lives", "p"), ("lives", (1, 0, 3), (1, 0, 3))), False)

    def test_faults_with_other_numbers(self):
        yard = filled()
        promise = ("follows", "p", "t")
        word, one, other, corner = yard.judged(promise)
        for times in (3, 10 ** 60):
            longer = [tuple([part * times for part in number]) for number in (one, other)]
            self.assertIs(fault_holds(yard, promise, (word, longer[0], longer[1], corner)), True)
            self.assertIs(fault_holds(yard, ("never", "p", "p"), ("both", longer[0], longer[1])), True)
        floor = a_floor(P)
        for wrong in T:
            right = not has_corner(floor, wrong)
            self.assertIs(fault_holds(yard, promise, (word, floor.all_keys[0], floor.all_keys[1], wrong)), right)
        for keys in (((0, 0, 1), (1, 0, 2)), ((5, 0, 3), (1, 0, 3))):
            self.assertIs(fault_holds(yard, promise, (word,) + keys + (corner,)), False)
            self.assertIs(fault_holds(yard, ("never", "p", "p"), ("both",) + keys), False)
        self.assertIs(fault_holds(yard, promise, ("Parted", one, other, corner)), False)
        for keys in itertools.product(((2, 0, 3), (-1, 0, 3), (-3, 0, 5), (1, 0, 3), (1, 0, 7), (-1, 0, 9)), repeat=2):
            if sides(*keys) != ((0, 0, 0, 0, 0),):
                continue
            floor = Floor(keys[0], keys[1])
            for wrong in T:
                right = has_patch(floor, P) and not has_corner(floor, wrong)
                self.assertIs(fault_holds(yard, promise, (word,) + keys + (wrong,)), right)
            self.assertIs(fault_holds(yard, ("never", "p", "t"), ("both",) + keys), has_patch(floor, P)
                          and has_patch(floor, T))
        spoilt = tuple([bool(part) if part in (0, 1) else part for part in corner])
        self.assertIs(fault_holds(yard, promise, (word, one, other, spoilt)), False)
        # Not a corner of the other patch.
        self.assertIs(fault_holds(yard, promise, (word, one, other, (9, -8, 0, 0, 0))), False)

    def test_faults_of_the_same(self):
        yard = filled()
        yard.change(("floor", "wt", turned(W, 0)))
        self.assertEqual(yard.judged(("same", "w", "wt")), ("sides",))
        self.assertIs(fault_holds(yard, ("same", "w", "wt"), ("sides",)), True)
        self.assertIs(fault_holds(yard, ("same", "w", "w"), ("sides",)), False)
        self.assertIs(fault_holds(yard, ("same", "e", "f"), ("moved", STEP)), False)
        self.assertEqual(yard.judged(("same", "e", "f")), ("kept",))
        for r in range(5):
            right = move_holds(E, FLOORS["reg"], ("unlike", r))
            self.assertIs(fault_holds(yard, ("same", "e", "reg"), ("unlike", r)), right)

    def test_what_is_a_promise(self):
        yard = filled()
        wrong = odd_values() + ["regular", ("regular",), ("regular", "p"), ("regular", "zz"), ("regular", "e", "e"),
                                ["regular", "e"], ("has", "p", "e"), ("has", "e"), ("lives", "e"), ("never", "p", "e"),
                                ("follows", "e", "p"), ("same", "e", "p"), ("same", "e"), ("worm", "p", 0),
                                ("worm", "w", True), ("worm", "w", 5), ("worm", "w", -1), ("worm", "w", "0"),
                                ("kept",), ("worm", 0, "w"), ("regular", ["e"]), ("regular", E), ("", "e"),
                                ("Regular", "e"), ("move", "e", STEP), (("regular", "e"),), ({}, "e"),
                                (["has"], "e", "p")]
        for thing in wrong:
            check_error(self, BadPromise, {"thing": thing}, yard.judged, thing)
            check_error(self, BadPromise, {"thing": thing}, yard.judged, promise=thing)
            self.assertIs(fault_holds(yard, thing, ("no worm",)), False)
            self.assertIs(fault_holds(thing=("kept",), promise=thing, yard=yard), False)
            check_error(self, BadPromise, {"thing": thing}, yard.change, ("promise", thing))
            check_error(self, NoPromise, {"thing": thing}, yard.change, ("release", thing))
        self.assertEqual(yard, filled())


class Changes(unittest.TestCase):
    def check_change(self, change, **told):
        """Checks what stands behind names after a change, None for nothing, and that it can be undone."""
        yard = filled()
        before = yard.copy()
        self.assertIsNone(yard.change(change))
        self.assertEqual(yard.deals(), before.deals() + ((change,),))
        for name, thing in told.items():
            if thing is None:
                self.assertNotIn(name, yard.names())
            else:
                self.assertEqual((yard.floor if isinstance(thing, Floor) else yard.patch)(name), thing)
        others = [name for name in yard.names() if name not in told]
        for name in others:
            call = "floor" if name in FLOORS else "patch"
            self.assertEqual(getattr(yard, call)(name), getattr(before, call)(name))
        after = yard.copy()
        yard.undo()
        self.assertEqual(yard, before)
        yard.redo()
        self.assertEqual((yard, yard.deals()), (after, after.deals()))

    def test_each_change(self):
        self.check_change(("floor", "new", W), new=W)
        self.check_change(("floor", "e", W), e=W)
        self.check_change(("patch", "abcdefgh", T), abcdefgh=T)
        self.check_change(("patch", "p", T), p=T)
        self.check_change(("drop", "e"), e=None)
        self.check_change(("drop", "big"), big=None)
        self.check_change(("rename", "e", "z"), e=None, z=E)
        self.check_change(("rename", "p", "a"), p=None, a=P)
        for step in (STEP, FAR_STEP, (0, 0, 0, 0, 0)):
            self.check_change(("move", "w", step), w=moved(W, step))
            self.check_change(("move", "big", step), big=tuple(sorted([added(row, step) for row in AROUND[:64]])))
        for motion in itertools.product((0, 3), (0, 1), (0, 1)):
            self.check_change(("motion", "all", motion), all=floor_done(motion, ALL_WHOLE))
            self.check_change(("motion", "t", motion), t=led_patch(motion, T))
            self.assertEqual(led_patch(motion, T), tuple(sorted([done(motion, row) for row in T])))
        for name, floor in FLOORS.items():
            self.check_change(("gather", name), **{name: gathered(floor)})
            self.check_change(("cut", name), **{name: cut_floor(floor)})
            for r, _ in sides_beside(floor):
                self.check_change(("turn", name, r), **{name: turned(floor, r)})
        self.check_change(("corner", "p", (1, 0, 0, 0, 0)), p=tuple(sorted(P + ((1, 0, 0, 0, 0),))))
        self.check_change(("corner", "p", P[1]), p=P)
        self.check_change(("corner", "big", AROUND[5]), big=AROUND[:64])
        self.check_change(("off", "p", P[0]), p=P[1:])
        self.check_change(("off", "big", AROUND[63]), big=AROUND[:63])

    def test_errors_of_changes(self):
        yard = filled()
        before = yard.copy()
        for thing in NOT_NAMES:
            for change in (("floor", thing, E), ("patch", thing, P), ("rename", "e", thing), ("rename", "p", thing)):
                check_error(self, BadName, {"thing": thing}, yard.change, change)
        for thing in NOT_NAMES + ["zz"]:
            for change in (("drop", thing), ("rename", thing, "e"), ("rename", thing, None), ("move", thing, None),
                           ("motion", thing, None), ("gather", thing), ("cut", thing), ("turn", thing, None),
                           ("corner", thing, None), ("off", thing, None)):
                check_error(self, NoName, {"name": thing}, yard.change, change)
        for change in (("gather", "p"), ("cut", "p"), ("turn", "p", None), ("corner", "e", None), ("off", "e", None)):
            check_error(self, NoName, {"name": change[1]}, yard.change, change)
        for change in (("floor", "p", E), ("patch", "e", P), ("rename", "w", "e"), ("rename", "w", "p"),
                       ("rename", "w", "w")):
            name = change[2] if change[0] == "rename" else change[1]
            check_error(self, NameTaken, {"name": name}, yard.change, change)
        for thing in odd_values() + spoiled(STEP) + [(1, 0, 0, 0, 0), 0]:
            if thing in (STEP, (-1, 1, 0, 0, 0)):
                continue
            for name in ("e", "p"):
                check_error(self, BadStep, {"thing": thing}, yard.change, ("move", name, thing))
        for thing in odd_values() + spoiled((2, 1, 1)) + [(5, 0, 0), (0, 2, 0), (0, 0, 2), (-1, 0, 0), 0]:
            if isinstance(thing, tuple) and thing in ((1, 0, 1), (1, 0, 0)) and True not in [t is True for t in thing]:
                continue
            for name in ("e", "p"):
                check_error(self, BadMotion, {"thing": thing}, yard.change, ("motion", name, thing))
        for thing in odd_values() + [5, -1]:
            check_error(self, BadDirection, {"thing": thing}, yard.change, ("turn", "w", thing))
            check_error(self, BadDirection, {"thing": thing}, yard.change, ("turn", "e", thing))
        check_error(self, NoWorm, {"direction": 1}, yard.change, ("turn", "w", 1))
        check_error(self, NoWorm, {"direction": 0}, yard.change, ("turn", "all", 0))
        self.assertEqual((yard, yard.deals()), (before, before.deals()))

    def test_errors_of_corners(self):
        yard = filled()
        for thing in odd_values() + spoiled(P[0]) + [(0, 0, 0, 0, 0), (1, 1, 1, 1, 1), 0]:
            if thing not in P:
                check_error(self, NotLaid, {"thing": thing}, yard.change, ("off", "p", thing))
            if raised(yard.would, (("corner", "p", thing),)) is not None:
                check_error(self, BadCorner, {"thing": thing}, yard.change, ("corner", "p", thing))
                check_error(self, BadCorner, {"thing": thing}, yard.change, ("corner", "big", thing))
        spoilt = (False, False, True, False, False)
        check_error(self, NotLaid, {"thing": spoilt}, yard.change, ("off", "p", spoilt))
        check_error(self, BadCorner, {"thing": spoilt}, yard.change, ("corner", "p", spoilt))
        check_error(self, NotLaid, {"thing": AROUND[9]}, yard.change, ("off", "one", AROUND[9]))
        check_error(self, LastCorner, {}, yard.change, ("off", "one", (1, 0, 0, 0, 0)))
        check_error(self, Full, {}, yard.change, ("corner", "big", AROUND[64]))
        yard.change(("off", "big", AROUND[0]))
        yard.change(("corner", "big", AROUND[64]))
        self.assertEqual(yard.patch("big"), AROUND[1:65])

    def test_promises_given_and_released(self):
        yard = filled()
        for promise in (("worm", "w", 0), ("has", "e", "p"), ("regular", "e"), ("worm", "all", 2)):
            yard.change(("promise", promise))
            check_error(self, BadPromise, {"thing": promise}, yard.change, ("promise", promise))
        self.assertEqual(yard.promises(), (("worm", "w", 0), ("has", "e", "p"), ("regular", "e"), ("worm", "all", 2)))
        for thing in [("worm", "w", False), ["has", "e", "p"], ("regular", "w"), ("has", "e"), None] + odd_values():
            check_error(self, NoPromise, {"thing": thing}, yard.change, ("release", thing))
        for name in ("w", "e", "p", "all"):
            check_error(self, InUse, {"name": name}, yard.change, ("drop", name))
        yard.change(("release", ("has", "e", "p")))
        self.assertEqual(yard.promises(), (("worm", "w", 0), ("regular", "e"), ("worm", "all", 2)))
        yard.change(("drop", "p"))
        yard.change(("release", ("regular", "e")))
        yard.change(("promise", ("regular", "e")))
        self.assertEqual(yard.promises(), (("worm", "w", 0), ("worm", "all", 2), ("regular", "e")))
        self.assertEqual(yard.deals()[-1], (("promise", ("regular", "e")),))

    def test_names_that_are_words_of_promises(self):
        yard = Yard()
        yard.deal((("floor", "has", E), ("patch", "lives", P), ("promise", ("has", "has", "lives")),
                   ("promise", ("lives", "lives"))))
        yard.change(("rename", "has", "lacks"))
        self.assertEqual(yard.promises(), (("has", "lacks", "lives"), ("lives", "lives")))
        yard.change(("rename", "lives", "has"))
        self.assertEqual(yard.promises(), (("has", "lacks", "has"), ("lives", "has")))
        # The word of a promise is not one of its names.
        yard.change(("floor", "follows", E))
        yard.change(("promise", ("follows", "has", "has")))
        yard.change(("drop", "follows"))
        yard.change(("release", ("has", "lacks", "has")))
        yard.change(("drop", "lacks"))
        self.assertEqual(Yard.read(str(yard)), yard)

    def test_promises_are_led_along(self):
        yard = filled()
        yard.deal((("promise", ("same", "e", "e")), ("promise", ("has", "e", "p")), ("rename", "e", "z")))
        self.assertEqual(yard.promises(), (("same", "z", "z"), ("has", "z", "p")))
        yard.undo()
        self.assertEqual(yard.promises(), ())
        yard.redo()
        self.assertEqual(yard.promises(), (("same", "z", "z"), ("has", "z", "p")))


class Deals(unittest.TestCase):
    def test_the_example(self):
        yard = Yard()
        yard.deal((("floor", "e", E), ("patch", "p", P), ("promise", ("has", "e", "p"))))
        text = "yard\nfloor e 1+0g/3 1+0g/3\npatch p\ncorner 0 0 1 0 0\ncorner 0 0 1 0 1\nhas e p"
        self.assertEqual(str(yard), text)
        promise = ("has", "e", "p")
        check_error(self, Unkept, {"promise": promise, "fault": ("lacks", (0, 0, 0, 1, 0))}, yard.change,
                    ("corner", "p", (0, 0, 0, 1, 0)))
        check_error(self, Unkept, {"promise": promise, "fault": ("lacks", (0, 0, 1, 0, 0))}, yard.change,
                    ("move", "e", STEP))
        self.assertEqual(str(yard), text)
        yard.deal((("move", "e", STEP), ("move", "p", STEP)))
        self.assertEqual(yard.judged(promise), ("kept",))
        self.assertEqual(yard.judged(("regular", "e")), ("kept",))
        yard.undo()
        self.assertIs(fault_holds(yard, ("never", "p", "p"), ("both", (1, 0, 3), (1, 0, 3))), True)

    def test_what_is_no_change(self):
        yard = filled()
        before = yard.copy()
        wrong = odd_values() + [
            "drop", ("drop",), ("drop", "e", "e"), ["drop", "e"], ("Drop", "e"), ("floor", "e"), ("floor", "e", P),
            ("floor", "e", None), ("floor", "e", E, (0, 0, 0, 0, 0)), ("patch", "p", E), ("patch", "p", ()),
            ("patch", "p", list(P)), ("patch", "p", P[::-1]), ("rename", "e"), ("move", "e"), ("motion", "e"),
            ("gather", "e", 1), ("cut",), ("turn", "w"), ("corner", "p"), ("off", "p"), ("promise",),
            ("promise", "regular", "e"), ("release",), (("drop", "e"),), ({}, "e"), ([], "e"), (None, "e"), (1, 2, 3)]
        for thing in wrong + [("patch", "p", patch) for patch in not_patches()[::25]]:
            check_error(self, BadChange, {"number": 0}, yard.change, thing)
            check_error(self, BadChange, {"number": 0}, yard.change, change=thing)
            for call in (yard.deal, yard.would):
                check_error(self, BadChange, {"number": 0}, call, (thing,))
                check_error(self, BadChange, {"number": 2}, call, changes=(("cut", "e"), ("drop", "p"), thing, None))
        for thing in odd_values():
            if not isinstance(thing, tuple):
                for call in (yard.deal, yard.would):
                    check_error(self, BadChange, {"number": -1}, call, thing)
        check_error(self, BadChange, {"number": -1}, yard.deal, [("drop", "e")])
        self.assertEqual((yard, yard.deals()), (before, before.deals()))

    def test_changes_that_fail(self):
        yard = filled()
        before = yard.copy()
        for change in (("drop", "zz"), ("floor", "p", E), ("rename", "e", "e"), ("turn", "e", 0), ("corner", "p", None),
                       ("off", "one", (1, 0, 0, 0, 0)), ("promise", ("has", "e")), ("release", ("regular", "e")),
                       ("move", "e", (1, 0, 0, 0, 0)), ("motion", "e", None), ("gather", "p")):
            for at in range(3):
                changes = (("cut", "e"), ("rename", "w", "y"), ("drop", "t"))[:at] + (change, ("nothing",))
                check_error(self, BadChange, {"number": at}, yard.deal, changes)
                check_error(self, BadChange, {"number": at}, yard.would, changes)
            self.assertNotEqual(raised(yard.change, change)[0], BadChange)
        # What can be done only behind another change, and what cannot be done any more.
        yard.deal((("drop", "one"), ("floor", "one", W), ("promise", ("worm", "one", 0)), ("rename", "one", "uno")))
        self.assertEqual(yard.promises(), (("worm", "uno", 0),))
        check_error(self, BadChange, {"number": 1}, yard.deal, (("release", ("worm", "uno", 0)), ("drop", "one")))
        yard.undo()
        self.assertEqual((yard, yard.deals()), (before, before.deals()))

    def test_promises_are_kept_behind_the_deal_alone(self):
        yard = filled()
        yard.deal((("promise", ("regular", "e")), ("promise", ("has", "e", "p")), ("promise", ("same", "e", "f"))))
        self.assertIsNone(yard.would((("floor", "e", W), ("floor", "e", E))))
        yard.deal((("floor", "e", W), ("cut", "w"), ("floor", "e", E)))
        changes = (("floor", "e", W),)
        before = yard.copy()
        for call in (yard.deal, lambda changes: yard.change(changes[0])):
            check_error(self, Unkept, {"promise": ("regular", "e"), "fault": ("edge", (0,))}, call, changes)
        self.assertEqual(yard.would(changes=changes), (("regular", "e"), ("edge", (0,))))
        promise, fault = yard.would((("move", "p", STEP),))
        self.assertEqual((promise, fault), (("has", "e", "p"), ("lacks", added(P[0], STEP))))
        self.assertEqual((yard, yard.deals()), (before, before.deals()))
        # A promise that is not kept when it is given.
        found = raised(yard.change, ("promise", ("worm", "e", 1)))
        self.assertEqual(found, (Unkept, {"promise": ("worm", "e", 1), "fault": ("no worm",)}))
        # The first one that is not kept, in the order in which they were given.
        found = raised(yard.deal, (("floor", "e", ALL_WHOLE), ("move", "p", STEP)))
        self.assertEqual(found[1]["promise"], ("regular", "e"))
        found = raised(yard.deal, (("release", ("regular", "e")), ("floor", "e", ALL_WHOLE),
                                   ("promise", ("regular", "e")), ("promise", ("lives", "dead"))))
        self.assertIn(found[1]["promise"], (("has", "e", "p"), ("same", "e", "f")))
        self.assertEqual((yard, yard.deals()), (before, before.deals()))

    def test_unkept_promises_of_each_kind(self):
        yard = filled()
        for promise in all_promises()[::5]:
            if is_kept_by(promise):
                yard.change(("promise", promise))
                self.assertEqual(yard.promises(), (promise,))
                yard.undo()
                self.assertIsNone(yard.would((("promise", promise),)))
                continue
            kind, told = raised(yard.change, ("promise", promise))
            self.assertEqual((kind, told["promise"]), (Unkept, promise))
            self.assertIs(fault_holds(yard, promise, told["fault"]), True)
            self.assertEqual(yard.would((("promise", promise),)), (promise, told["fault"]))

    def test_undone_and_done_again(self):
        yard = Yard()
        deals = [(), (("floor", "e", E), ("patch", "p", P)), (("promise", ("has", "e", "p")),), (),
                 (("rename", "e", "z"), ("motion", "z", (0, 0, 0))), (("release", ("has", "z", "p")), ("drop", "z")),
                 (("floor", "w", W),), (("turn", "w", 0),), (("gather", "w"), ("cut", "w")), (("move", "w", STEP),),
                 (("corner", "p", (9, 0, 0, 0, -8)),), (("off", "p", (9, 0, 0, 0, -8)),), (("patch", "w", P),)]
        states = [str(yard)]
        for deal in deals[:-1]:
            self.assertIsNone(yard.deal(deal))
            states.append(str(yard))
        check_error(self, BadChange, {"number": 0}, yard.deal, deals[-1])
        self.assertEqual(yard.deals(), tuple(deals[:-1]))
        for many, state in list(enumerate(states[:-1]))[::-1]:
            self.assertIsNone(yard.undo())
            self.assertEqual(str(yard), state)
            self.assertEqual(yard.deals(), tuple(deals[:many]))
        check_error(self, NothingToUndo, {}, yard.undo)
        for many, state in enumerate(states[1:], 1):
            self.assertIsNone(yard.redo())
            self.assertEqual(str(yard), state)
            self.assertEqual(yard.deals(), tuple(deals[:many]))
        check_error(self, NothingToRedo, {}, yard.redo)

    def test_other_deals_in_between(self):
        for changes in ((), (("drop", "e"),), (("cut", "e"),)):
            yard = filled()
            yard.undo()
            yard.deal(changes)
            check_error(self, NothingToRedo, {}, yard.redo)
        yard = filled()
        yard.undo()
        for call, args in ((yard.deal, None), (yard.deal, (("drop", "zz"),)), (yard.change, ("drop", "zz")),
                           (yard.deal, (("promise", ("worm", "e", 0)),)), (yard.judged, None)):
            self.assertIsNotNone(raised(call, args))
        yard.would((("drop", "e"),))
        yard.judged(("regular", "e"))
        str(yard)
        yard.redo()
        self.assertEqual(yard, filled())


class Texts(unittest.TestCase):
    def test_texts(self):
        self.assertEqual(str(Yard()), "yard")
        self.assertEqual(Yard.read("yard"), Yard())
        yard = filled()
        for promise in all_promises()[::7]:
            if is_kept_by(promise):
                yard.change(("promise", promise))
        for one in (yard, filled()):
            lines = ["yard"]
            for name in one.names():
                if name in FLOORS:
                    lines.append("floor " + name + str(one.floor(name))[5:])
                else:
                    lines.append("patch " + name)
                    lines.extend(["corner " + " ".join(map(str, corner)) for corner in one.patch(name)])
            lines.extend([" ".join(map(str, promise)) for promise in one.promises()])
            self.assertEqual(str(one), "\n".join(lines))
            other = Yard.read(text=str(one))
            self.assertEqual(other, one)
            self.assertEqual(other.deals(), ())
            check_error(self, NothingToUndo, {}, other.undo)
            check_error(self, NothingToRedo, {}, other.redo)
        self.assertGreater(len(yard.promises()), 5)

    def check_line(self, line, *lines):
        check_error(self, BadText, {"line": line}, Yard.read, "\n".join(lines))

    def test_lines_of_names(self):
        floor = "floor e 1+0g/3 1+0g/3"
        patch = ("patch p", "corner 0 0 1 0 0")
        for thing in odd_values():
            line = 1 if isinstance(thing, str) else 0
            check_error(self, BadText, {"line": line}, Yard.read, thing)
            check_error(self, BadText, {"line": line}, Yard.read, text=thing)
        self.check_line(1, "Yard")
        self.check_line(1, "", "yard")
        self.check_line(2, "yard", "")
        self.check_line(3, "yard", floor, "")
        self.check_line(3, "yard", floor, floor)
        self.check_line(3, "yard", floor, "floor d 1+0g/3 1+0g/3")
        self.check_line(4, "yard", *patch, floor)
        self.check_line(4, "yard", *patch, "patch p", "corner 0 0 1 0 0")
        self.check_line(4, "yard", *patch, "patch o", "corner 0 0 1 0 0")
        for wrong in ("floor", "floor e", "floor e 1+0g/3", "floor e 2+0g/6 1+0g/3", "floor e 1+0g/3 1+0g/3 00000",
                      "floor e 0+0g 1+0g/2", "floor e 0+0g 1+0g/2 -+-++", "floor E 1+0g/3 1+0g/3", floor + " ",
                      "floor abcdefghi 1+0g/3 1+0g/3", "floor  1+0g/3 1+0g/3", "floor e  1+0g/3 1+0g/3",
                      "Floor e 1+0g/3 1+0g/3", "floore 1+0g/3 1+0g/3", " " + floor, "patch", "patch P", "patch p p",
                      "patch ", "corner 0 0 1 0 0", "has e p", "regular e"):
            self.check_line(2, "yard", wrong, "nothing")
            self.check_line(5, "yard", "floor a 1+0g/3 1+0g/3", "patch b", "corner 0 0 1 0 0",
                            wrong, "nothing")
        self.assertEqual(Yard.read("\n".join(["yard", floor, *patch])).names(), ("e", "p"))
        self.assertEqual(Yard.read("yard\nfloor all 0+0g 0+0g +-++-").floor("all"), ALL_WHOLE)

    def test_lines_of_corners(self):
        start = ("yard", "patch p")
        for wrong in ("corner", "corner 0 0 1 0", "corner 0 0 1 0 0 0", "corner 0 0 0 0 0", "corner 0 0 01 0 0",
                      "corner 0 0 +1 0 0", "corner -0 0 1 0 0", "corner 0 0 1 0 0 ", "corner  0 0 1 0 0",
                      "corner 3 1 1 0 0", "Corner 0 0 1 0 0", "corner 0 0 x 0 0"):
            self.check_line(3, *start, wrong)
            self.check_line(4, *start, "corner 0 0 0 0 1", wrong)
        self.check_line(4, *start, "corner 0 0 1 0 0", "corner 0 0 1 0 0")
        self.check_line(4, *start, "corner 0 0 1 0 0", "corner 0 0 0 0 1")
        self.check_line(5, *start, "corner 0 0 0 0 1", "corner 0 0 1 0 0", "corner 0 0 0 1 0")
        # A patch without a corner: the next line cannot stand, or the one behind the last one.
        self.check_line(3, *start)
        self.check_line(3, *start, "patch q", "corner 0 0 1 0 0")
        self.check_line(3, *start, "floor q 1+0g/3 1+0g/3")
        self.check_line(3, *start, "lives p")
        self.check_line(3, *start, "")
        # Corners behind another line.
        self.check_line(5, *start, "corner 0 0 1 0 0", "floor q 1+0g/3 1+0g/3", "corner 0 0 2 0 0")
        self.check_line(5, *start, "corner 0 0 1 0 0", "lives p", "corner 0 0 2 0 0")
        rows = ["corner " + " ".join(map(str, corner)) for corner in AROUND[:65]]
        self.assertEqual(Yard.read("\n".join([*start, *rows[:64]])).patch("p"), AROUND[:64])
        self.check_line(67, *start, *rows)

    def test_lines_of_promises(self):
        start = ("yard", "floor e 1+0g/3 1+0g/3", "patch p", "corner 0 0 1 0 0", "corner 0 0 1 0 1",
                 "floor w 0+0g 1+0g/2 +0000")
        good = ("has e p", "regular e", "lives p", "follows p p", "same e e", "worm w 0")
        self.assertEqual(str(Yard.read("\n".join([*start, *good]))), "\n".join([*start, *good]))
        for wrong in ("regular", "regular p", "regular e e", "has p e", "has e", "has e z", "lives e", "never p",
                      "same e p", "worm w", "worm w 00", "worm w 5", "worm w -0", "worm p 0", "worm 0 w", "worm w +0",
                      "worm w 0 ", " worm w 0", "worm  w 0", "kept", "regular  e", "follows p e", "Regular e"):
            self.check_line(7, *start, wrong)
            self.check_line(9, *start, *good[:2], wrong, "nothing")
        self.check_line(9, *start, *good[:2], good[0])
        self.check_line(8, *start, good[0], "floor z 1+0g/3 1+0g/3")
        self.check_line(8, *start, good[0], "patch z", "corner 0 0 1 0 0")
        # If all lines can stand: the first promise that is not kept.
        self.check_line(8, *start, good[0], "worm w 1", "regular w", good[1])
        self.check_line(9, *start, *good[:2], "never p p")
        self.check_line(10, *start, *good[:2], "regular w", "nothing")
        for text in ("regular w", "same e w", "worm w 1", "never p p"):
            self.check_line(7, *start, text)

    def test_great_numbers_in_texts(self):
        yard = Yard()
        yard.deal((("floor", "far", regular_floors()[4]), ("patch", "off", far_off(T)), ("promise", ("lives", "off"))))
        self.assertEqual(Yard.read(str(yard)), yard)

    def test_floors_at_the_edge(self):
        for floor in edge_floors()[::3]:
            yard = Yard()
            yard.change(("floor", "a", floor))
            for r in range(5):
                yard.judged(("worm", "a", r))
            self.assertEqual(Yard.read(str(yard)).floor("a"), floor)


if __name__ == "__main__":
    unittest.main()
