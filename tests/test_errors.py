"""The error classes: their fields, by position and by name, and where they stand under one another."""

import unittest

from bookpack import errors

FIELDS = {
    "BadChapter": ("index",),
    "BadToken": ("index",),
    "BadKind": ("kind",),
    "BadStyle": ("word",),
    "BadLink": ("link",),
    "BadNumber": ("name",),
    "BadSpot": ("number",),
    "NoSpot": ("depth",),
    "BadText": ("row", "column"),
    "BadPatch": ("part", "number"),
    "Misfit": ("index",),
    "Conflict": ("place",),
    "NoNode": ("gap",),
    "TooLong": ("number",),
    "BadBranch": ("side", "number"),
    "Clash": ("first", "second", "place"),
    "BadBook": ("part", "number"),
    "NoItem": ("key",),
    "NoChapter": ("key",),
    "NotInSlots": ("key",),
    "NotNeighbors": (),
    "BadOrder": ("number",),
    "BadNames": ("number",),
    "NoMain": (),
    "TooMany": ("part",),
    "Unsound": ("word", "path"),
    "Busy": (),
    "NoMark": ("name",),
    "BadOctets": ("index",),
    "BadEntry": ("number",),
    "BadArchive": ("word", "offset"),
    "Refused": ("word", "path"),
    "Unrecoverable": ("word",),
}


class Errors(unittest.TestCase):
    def test_just_these_are_there(self):
        found = {name for name, thing in vars(errors).items() if isinstance(thing, type)}
        self.assertEqual(found, set(FIELDS) | {"BookError"})

    def test_bases(self):
        self.assertEqual(errors.BookError.__bases__, (ValueError,))
        for name in FIELDS:
            self.assertEqual(getattr(errors, name).__bases__, (errors.BookError,), name)

    def test_fields_by_position(self):
        for name, fields in FIELDS.items():
            values = [object() for _ in fields]
            error = getattr(errors, name)(*values)
            self.assertEqual(vars(error), dict(zip(fields, values)), name)

    def test_fields_by_name(self):
        for name, fields in FIELDS.items():
            values = {field: object() for field in fields}
            error = getattr(errors, name)(**values)
            self.assertEqual(vars(error), values, name)

    def test_other_numbers_of_fields_are_refused(self):
        for name, fields in FIELDS.items():
            with self.assertRaises(TypeError):
                getattr(errors, name)(*[0 for _ in fields], 0)
            if fields:
                with self.assertRaises(TypeError):
                    getattr(errors, name)(*[0 for _ in fields[1:]])

    def test_they_are_caught_as_what_they_are(self):
        for name, fields in FIELDS.items():
            for kind in (getattr(errors, name), errors.BookError, ValueError):
                with self.assertRaises(kind):
                    raise getattr(errors, name)(*[None for _ in fields])
