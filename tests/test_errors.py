"""Points 4 and 5: the errors, their fields and where they stand."""

import unittest

from meankept import errors
from meankept.errors import BadJournal, BadText, KeepError, TooMany

WITH_FIELDS = {"BadJournal": "at", "BadText": "at", "TooMany": "most"}
NAMES = """BadChange BadDeeds BadHouse BadJournal BadMove BadName BadNumber BadPlace BadPlaces
BadRank BadRenaming BadRow BadRows BadSpelling BadText BadWeb NoName NotFree NotFull NotMade NotOver
TooMany UnlikeMany UnlikeWebs""".split()


class ErrorsTest(unittest.TestCase):
    def test_all_are_there_and_nothing_else(self):
        found = [name for name in vars(errors) if not name.startswith("_")]
        self.assertEqual(sorted(found), sorted(NAMES + ["KeepError"]))

    def test_keep_error_stands_under_value_error(self):
        self.assertEqual(KeepError.__bases__, (ValueError,))
        self.assertEqual(str(KeepError("so")), "so")

    def test_each_stands_directly_under_keep_error(self):
        for name in NAMES:
            self.assertEqual(getattr(errors, name).__bases__, (KeepError,), name)

    def test_none_is_a_kind_of_another_one(self):
        for name in NAMES:
            for other in NAMES:
                same = issubclass(getattr(errors, name), getattr(errors, other))
                self.assertEqual(same, name == other, (name, other))

    def test_each_is_defined_in_errors(self):
        for name in NAMES + ["KeepError"]:
            self.assertEqual(getattr(errors, name).__module__, "meankept.errors")
            self.assertEqual(getattr(errors, name).__name__, name)

    def test_made_from_a_message(self):
        for name in NAMES:
            if name not in WITH_FIELDS:
                error = getattr(errors, name)("what is wrong")
                self.assertEqual(str(error), "what is wrong", name)
                self.assertEqual(error.args, ("what is wrong",), name)
                self.assertFalse(hasattr(error, "at"), name)
                self.assertFalse(hasattr(error, "most"), name)

    def test_made_from_the_field_by_position(self):
        for value in (-1, 0, 1, 60, 2000, 10 ** 29):
            self.assertEqual(TooMany(value).most, value)
            self.assertEqual(BadText(value).at, value)
            self.assertEqual(BadJournal(value).at, value)

    def test_made_from_the_field_by_name(self):
        for value in (-1, 0, 1, 60, 2000, 10 ** 29):
            self.assertEqual(TooMany(most=value).most, value)
            self.assertEqual(BadText(at=value).at, value)
            self.assertEqual(BadJournal(at=value).at, value)

    def test_the_field_is_the_only_one_and_is_needed(self):
        for name, field in WITH_FIELDS.items():
            self.assertEqual(vars(getattr(errors, name)(3)), {field: 3})
            with self.assertRaises(TypeError):
                getattr(errors, name)()
            with self.assertRaises(TypeError):
                getattr(errors, name)(3, 4)

    def test_caught_by_name(self):
        for name in NAMES:
            error = getattr(errors, name)
            with self.assertRaises(error):
                raise error(1)
            with self.assertRaises(ValueError):
                raise error(1)

    def test_equal_to_nothing_of_another_kind(self):
        for name in NAMES:
            error = getattr(errors, name)(1)
            for other in (1, "1", (1,), None, True, KeepError(1), ValueError(1)):
                self.assertNotEqual(error, other)


if __name__ == "__main__":
    unittest.main()
