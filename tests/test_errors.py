"""Points [5] and [16]."""

import unittest

from helpers import FIELDS, Case, no_whole_numbers
from splitseed import errors
from splitseed.errors import SeedError


class Errors(Case):
    def test_there_are_just_these_thirty_and_seed_error(self):
        found = [name for name, thing in vars(errors).items() if isinstance(thing, type)]
        self.assertEqual(sorted(found), sorted([*FIELDS, "SeedError"]))
        self.assertEqual(len(FIELDS), 30)

    def test_each_is_straight_under_seed_error(self):
        self.assertEqual(SeedError.__bases__, (ValueError,))
        for name in FIELDS:
            self.assertEqual(getattr(errors, name).__bases__, (SeedError,), name)

    def test_fields_are_the_very_things_handed_in(self):
        for name, fields in FIELDS.items():
            for thing in no_whole_numbers() + [7, -7, 10 ** 60]:
                things = [thing] if len(fields) == 1 else [thing, [thing]]
                refusal = getattr(errors, name)(*things)
                for field, handed in zip(fields, things):
                    self.assertIs(getattr(refusal, field), handed, name)

    def test_a_list_in_a_field_is_no_copy(self):
        handed = [1, [2]]
        refusal = errors.NoStep(handed)
        handed.append(3)
        handed[1].append(4)
        self.assertIs(refusal.found, handed)
        self.assertEqual(refusal.found, [1, [2, 4], 3])

    def test_each_takes_just_as_many_things_as_it_has_fields(self):
        for name, fields in FIELDS.items():
            for many in (0, 1, 2, 3):
                if many != len(fields):
                    with self.assertRaises(TypeError):
                        getattr(errors, name)(*range(many))

    def test_each_can_be_raised_and_caught_as_a_seed_error(self):
        for name, fields in FIELDS.items():
            with self.assertRaises(SeedError) as held:
                raise getattr(errors, name)(*fields)
            self.assertEqual(type(held.exception).__name__, name)
            self.assertIsInstance(str(held.exception), str)

    def test_seed_error_is_made_of_one_text(self):
        self.assertEqual(str(SeedError("any words")), "any words")
        self.assertIsInstance(SeedError(""), ValueError)
        with self.assertRaises(TypeError):
            SeedError()
        with self.assertRaises(TypeError):
            SeedError("one", "two")


if __name__ == "__main__":
    unittest.main()
