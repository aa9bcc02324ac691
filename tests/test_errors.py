import unittest

from lotthrows import errors
from helpers import INTEGERS, NOTHING_VALID, STRINGS, Case

PARAMETER = {
    "BadSize": "thing", "BadKind": "thing", "BadDeck": "thing", "BadOrder": "thing", "BadThrow": "thing",
    "BadThrows": "thing", "OtherSize": "thing", "BadDesk": "thing", "BadDesks": "thing", "BadSheet": "thing",
    "BadTable": "thing", "BadWord": "thing", "BadChoice": "thing", "BadCode": "thing", "BadPlan": "thing",
    "BadNumber": "thing", "BadTree": "thing", "BadCounts": "thing", "BadFacts": "thing", "BadWay": "thing",
    "Unfit": "certificate", "BadBook": "thing", "BadProgram": "thing", "BadRun": "thing", "BadEnd": "thing",
    "TooMany": "most", "BadClaim": "thing", "Unkept": "claim", "NoClaim": "thing", "BadText": "at",
}
WITHOUT = ("NothingToUndo", "NothingToRedo")


class ErrorsTest(Case):
    def test_the_base_class(self):
        self.assertEqual(errors.ThrowError.__bases__, (Exception,))

    def test_each_is_a_direct_subclass(self):
        for name in (*PARAMETER, *WITHOUT):
            self.assertEqual(getattr(errors, name).__bases__, (errors.ThrowError,), name)

    def test_there_are_no_others(self):
        found = [name for name, value in vars(errors).items() if isinstance(value, type)]
        self.assertEqual(sorted(found), sorted(["ThrowError", *PARAMETER, *WITHOUT]))

    def test_the_parameter_is_an_attribute_by_position_and_by_name(self):
        for name, parameter in PARAMETER.items():
            for value in NOTHING_VALID + INTEGERS + STRINGS:
                for error in (getattr(errors, name)(value), getattr(errors, name)(**{parameter: value})):
                    self.assertEqual(list(vars(error)), [parameter])
                    self.assertIs(getattr(error, parameter), value)

    def test_the_parameter_is_needed(self):
        for name in PARAMETER:
            with self.assertRaises(TypeError):
                getattr(errors, name)()

    def test_those_without_a_parameter(self):
        for name in WITHOUT:
            self.assertEqual(vars(getattr(errors, name)()), {})

    def test_they_can_be_raised_and_caught_as_throw_errors(self):
        for name in PARAMETER:
            with self.assertRaises(errors.ThrowError):
                raise getattr(errors, name)(5)
        for name in WITHOUT:
            with self.assertRaises(errors.ThrowError):
                raise getattr(errors, name)()


if __name__ == "__main__":
    unittest.main()
