"""The errors of the interface, their fields and their bases."""

import unittest

from markpieces import errors

MADE = {
    "Unread": {"place": 7},
    "Unfit": {"why": "deep"},
    "TooMany": {"count": 5},
    "Unlike": {"names": ("a", "b")},
    "Unsound": {"path": (0, 1), "why": "idle"},
    "NoMove": {},
    "Outside": {"at": -1, "cut": 4},
    "TooLong": {"length": 201},
    "Foreign": {"place": 0},
    "NothingBack": {},
    "Busy": {},
}


class Errors(unittest.TestCase):
    def test_fields_are_what_it_was_made_with(self):
        for word, fields in MADE.items():
            error = getattr(errors, word)(*fields.values())
            self.assertEqual(vars(error), fields, word)

    def test_piece_errors_stand_right_under_piece_error(self):
        for word in MADE:
            self.assertEqual(getattr(errors, word).__bases__, (errors.PieceError,), word)
        self.assertEqual(errors.PieceError.__bases__, (ValueError,))

    def test_no_name_is_a_lookup_error_alone(self):
        self.assertEqual(errors.NoName.__bases__, (LookupError,))
        self.assertFalse(issubclass(errors.NoName, errors.PieceError))
        self.assertEqual(vars(errors.NoName("ab")), {"name": "ab"})

    def test_all_stand_in_this_file(self):
        for word in [*MADE, "PieceError", "NoName"]:
            self.assertEqual(getattr(errors, word).__module__, "markpieces.errors")

    def test_they_can_be_raised_and_shown(self):
        for word, fields in MADE.items():
            with self.assertRaises(errors.PieceError) as caught:
                raise getattr(errors, word)(*fields.values())
            self.assertIsInstance(str(caught.exception), str)
        self.assertIsInstance(str(errors.NoName("ab")), str)


if __name__ == "__main__":
    unittest.main()
