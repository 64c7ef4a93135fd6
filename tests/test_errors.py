"""The list of errors of the interface."""

import unittest

from nevertwice import errors
from tests.samples import odd_values

PARAMETERS = {
    "TooMany": ["most"], "DividedByZero": [], "BadText": ["line"], "AtTheEdge": ["directions"], "NotAtTheEdge": [],
    "Dead": ["paper"], "NoWorm": ["direction"], "Full": [], "Overlaps": ["other"], "Unfit": ["other"],
    "LastCorner": [], "NothingToUndo": [], "NothingToRedo": [], "NoName": ["name"], "NameTaken": ["name"],
    "InUse": ["name"], "Unkept": ["promise", "fault"], "BadChange": ["number"],
}
WITH_THING = """BadNumber BadPower BadDirection BadRow BadCorner BadStep BadPoint BadMotion BadSide BadTile BadEdge
    BadCount BadShifts BadPatch BadHalf BadLetters BadLine BadLevel BadStar BadBar BadBars BadGaps BadPhase
    BadHexagon NoSuchSide Laid NotLaid BadName BadPromise NoPromise""".split()


def all_parameters():
    return {**PARAMETERS, **{name: ["thing"] for name in WITH_THING}}


class TheErrors(unittest.TestCase):
    def test_each_one_exists_and_has_the_one_base_class(self):
        self.assertEqual(errors.FloorError.__bases__, (Exception,))
        self.assertEqual(len(all_parameters()), 48)
        for name in all_parameters():
            self.assertEqual(getattr(errors, name).__bases__, (errors.FloorError,), name)

    def test_no_others_exist(self):
        found = [name for name, value in vars(errors).items() if isinstance(value, type)]
        self.assertEqual(sorted(found), sorted(list(all_parameters()) + ["FloorError"]))

    def test_parameters_are_attributes_by_position_and_by_name(self):
        for name, parameters in all_parameters().items():
            error_class = getattr(errors, name)
            for value in odd_values():
                told = {parameter: value for parameter in parameters}
                for error in (error_class(*told.values()), error_class(**told)):
                    self.assertEqual(list(vars(error)), parameters)
                    for parameter in parameters:
                        self.assertIs(getattr(error, parameter), value)

    def test_two_parameters_keep_their_order(self):
        error = errors.Unkept("promise", "fault")
        self.assertEqual((error.promise, error.fault), ("promise", "fault"))
        error = errors.Unkept(fault=1, promise=2)
        self.assertEqual((error.promise, error.fault), (2, 1))

    def test_they_are_raised_and_caught(self):
        for name, parameters in all_parameters().items():
            with self.assertRaises(errors.FloorError):
                raise getattr(errors, name)(*parameters)


if __name__ == "__main__":
    unittest.main()
