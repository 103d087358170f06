"""Point [1] and the interface under wipedtalk/errors.py."""

import unittest

from tests.samples import anything
from wipedtalk import errors

FIELDS = {
    "InvalidNumber": ("thing",),
    "InvalidTable": ("name", "row"),
    "InvalidProgram": ("thing",),
    "InvalidPair": ("thing",),
    "InvalidEvent": ("place",),
    "InvalidExcusing": ("thing",),
    "NotSettled": (),
    "KeepsSomething": ("program",),
    "UnlikePrograms": (),
    "NotPossible": ("place",),
    "NothingDone": (),
}


class Errors(unittest.TestCase):
    def test_the_first_of_them_is_a_value_error(self):
        self.assertEqual(errors.TalkError.__bases__, (ValueError,))

    def test_all_others_stand_directly_beneath_it(self):
        for name in FIELDS:
            self.assertEqual(getattr(errors, name).__bases__, (errors.TalkError,), name)

    def test_fields_by_position(self):
        for name, fields in FIELDS.items():
            kind = getattr(errors, name)
            for thing in anything():
                error = kind(*[(field, thing) for field in fields])
                self.assertEqual([getattr(error, field) for field in fields], [(field, thing) for field in fields])

    def test_fields_by_name(self):
        for name, fields in FIELDS.items():
            kind = getattr(errors, name)
            for thing in anything():
                error = kind(**{field: (thing, field) for field in fields})
                self.assertEqual([getattr(error, field) for field in fields], [(thing, field) for field in fields])

    def test_wrong_numbers_of_fields(self):
        for name, fields in FIELDS.items():
            if fields:
                with self.assertRaises(TypeError):
                    getattr(errors, name)()
                with self.assertRaises(TypeError):
                    getattr(errors, name)(*fields, 0)

    def test_each_is_raised_and_caught_as_a_talk_error_and_a_value_error(self):
        for name, fields in FIELDS.items():
            for base in (errors.TalkError, ValueError):
                with self.assertRaises(base):
                    raise getattr(errors, name)(*fields)


if __name__ == "__main__":
    unittest.main()
