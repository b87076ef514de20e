"""The error classes, [20] and [4]."""

import unittest

from listnames import errors
from listnames.errors import ListError

FIELDS = {
    "Wrong": ["place"], "NoName": ["name"], "Full": ["limit"], "NoEntry": ["entry"], "There": ["name"],
    "TooMany": ["limit"], "BadFacts": ["name"], "NoAnswer": ["answer"], "NoHouse": ["house"], "BadChange": ["at"],
    "NoStep": [], "Late": [], "Nothing": [], "NoAsk": ["at"], "Hopeless": ["many", "demand", "answer"],
    "NoDeed": [], "Broken": ["at"], "NoText": [], "NoCommand": [],
}


class TestErrors(unittest.TestCase):

    def test_bases(self):
        self.assertEqual(ListError.__bases__, (ValueError,))
        for name in FIELDS:
            self.assertEqual(getattr(errors, name).__bases__, (ListError,), name)

    def test_defined_in_their_file(self):
        for name in ["ListError", *FIELDS]:
            self.assertEqual(getattr(errors, name).__module__, "listnames.errors")

    def test_fields_are_the_very_objects(self):
        for name, fields in FIELDS.items():
            for given in ([[1], {"a": []}, object()], [None, True, ("a",)], [10 ** 39, "x", {1}]):
                given = given[:len(fields)]
                error = getattr(errors, name)(*given)
                self.assertEqual([key for key in vars(error)], fields)
                for field, thing in zip(fields, given):
                    self.assertIs(getattr(error, field), thing)

    def test_can_be_raised_and_shown(self):
        for name, fields in FIELDS.items():
            with self.assertRaises(ListError) as caught:
                raise getattr(errors, name)(*[[field] for field in fields])
            self.assertIsInstance(str(caught.exception), str)

    def test_as_many_arguments_as_fields(self):
        for name, fields in FIELDS.items():
            if fields:
                with self.assertRaises(TypeError):
                    getattr(errors, name)(*[0] * (len(fields) + 1))
                with self.assertRaises(TypeError):
                    getattr(errors, name)()
