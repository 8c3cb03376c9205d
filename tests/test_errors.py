"""The refusals: who is under whom, what they are made with and bear."""

import unittest

from needfill import errors

FIELDS = {
    "BadProgram": ("place",), "BadNames": (), "BadSaying": ("path",), "NoTable": ("function", "clash"),
    "TooWide": ("most",), "BadTurns": (), "NoMore": (), "Cut": ("turns",), "NoText": ("row",), "NoRow": ("row",),
}
GIVEN = {
    "place": ("left", 0, 1, (0, 2)), "path": (0, 1), "function": "plus", "most": 400, "turns": 4, "row": 3,
    "clash": ("clash", (("name", "1"),), (0, 1)),
}


class Errors(unittest.TestCase):
    def test_each_is_under_the_first_and_under_no_other(self):
        self.assertTrue(issubclass(errors.FillError, ValueError))
        for one in FIELDS:
            kind = getattr(errors, one)
            self.assertEqual(kind.__name__, one)
            self.assertTrue(issubclass(kind, errors.FillError))
            self.assertTrue(issubclass(kind, ValueError))
            for other in FIELDS:
                if other != one:
                    self.assertFalse(issubclass(kind, getattr(errors, other)), (one, other))

    def test_fields_in_their_order(self):
        for word, fields in FIELDS.items():
            given = [GIVEN[field] for field in fields]
            error = getattr(errors, word)(*given)
            self.assertEqual([getattr(error, field) for field in fields], given, word)

    def test_no_field_too_few_and_none_too_many(self):
        for word, fields in FIELDS.items():
            if fields:
                given = [GIVEN[field] for field in fields]
                with self.assertRaises(TypeError):
                    getattr(errors, word)(*given[1:])
                with self.assertRaises(TypeError):
                    getattr(errors, word)(*given, 1)

    def test_they_are_raised_and_caught(self):
        for word, fields in FIELDS.items():
            kind = getattr(errors, word)
            for above in (kind, errors.FillError, ValueError):
                with self.assertRaises(above):
                    raise kind(*[GIVEN[field] for field in fields])
        with self.assertRaises(ValueError):
            raise errors.FillError()


if __name__ == "__main__":
    unittest.main()
