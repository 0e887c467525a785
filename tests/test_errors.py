"""Promise 4: the refusals."""

import unittest

from atomglass import errors
from tests.things import no_strings

FIELDS = {
    "NoPlace": ("at",),
    "Bad": ("word", "path"),
    "NoPattern": ("at",),
    "Unfit": ("word",),
    "TooMuch": ("most",),
    "TooMany": ("most",),
    "NoTemplate": ("at",),
    "NoName": ("name",),
    "NoRow": (),
}


def things():
    return no_strings() + ["", "a", "word", "two words"]


class Refusals(unittest.TestCase):
    def test_glass_error_stands_right_under_value_error(self):
        self.assertEqual(errors.GlassError.__bases__, (ValueError,))
        with self.assertRaises(ValueError):
            raise errors.GlassError("why")

    def test_each_stands_right_under_glass_error(self):
        for name in FIELDS:
            self.assertEqual(getattr(errors, name).__bases__, (errors.GlassError,), name)

    def test_there_are_no_others(self):
        found = [name for name, thing in vars(errors).items() if isinstance(thing, type)]
        self.assertEqual(sorted(found), sorted([*FIELDS, "GlassError"]))

    def test_none_stands_under_another(self):
        for name, fields in FIELDS.items():
            refusal = getattr(errors, name)(*fields)
            for other in FIELDS:
                self.assertEqual(isinstance(refusal, getattr(errors, other)), name == other, (name, other))

    def test_fields_are_the_very_things(self):
        for name, fields in FIELDS.items():
            if not fields:
                continue
            for thing in things():
                handed = [thing] + [[name]] * (len(fields) - 1)
                refusal = getattr(errors, name)(*handed)
                for field, given in zip(fields, handed):
                    self.assertIs(getattr(refusal, field), given, (name, field))

    def test_bad_has_its_fields_in_their_order(self):
        for thing in things():
            refusal = errors.Bad("form", thing)
            self.assertEqual(refusal.word, "form")
            self.assertIs(refusal.path, thing)

    def test_two_of_one_kind_keep_their_own_fields(self):
        for name, fields in FIELDS.items():
            kind = getattr(errors, name)
            one = kind(*[1 for field in fields])
            other = kind(*[2 for field in fields])
            for field in fields:
                self.assertEqual((getattr(one, field), getattr(other, field)), (1, 2), (name, field))

    def test_each_is_raised_and_caught_as_each_of_its_kinds(self):
        for name, fields in FIELDS.items():
            kind = getattr(errors, name)
            for caught in (kind, errors.GlassError, ValueError):
                with self.assertRaises(caught):
                    raise kind(*fields)

    def test_no_row_is_made_of_nothing(self):
        self.assertIsInstance(errors.NoRow(), errors.GlassError)


if __name__ == "__main__":
    unittest.main()
