import unittest

from markshome import errors

FIELDS = {
    "BadName": ["name"],
    "OutOfRange": ["what", "value"],
    "TooMany": ["what", "count", "limit"],
    "Duplicate": ["name"],
    "UnknownHouse": ["name"],
    "UnknownLine": ["name"],
    "BadLot": ["name"],
    "BadPair": ["first", "second"],
    "Weak": ["strength", "count"],
    "BadTree": ["index"],
    "BadLog": ["place"],
    "BadTable": ["house", "mark"],
    "Unlike": ["what"],
    "BadText": ["row", "place"],
}


class ErrorsTest(unittest.TestCase):
    def test_home_error_is_directly_below_value_error(self):
        self.assertEqual(errors.HomeError.__bases__, (ValueError,))

    def test_every_error_is_directly_below_home_error(self):
        for name in FIELDS:
            self.assertEqual(getattr(errors, name).__bases__, (errors.HomeError,), name)

    def test_no_other_error_exists(self):
        below = sorted(kind.__name__ for kind in errors.HomeError.__subclasses__())
        self.assertEqual(below, sorted(FIELDS))

    def test_fields_are_taken_by_position_and_kept(self):
        for name, fields in FIELDS.items():
            values = [f"v{k}" for k in range(len(fields))]
            error = getattr(errors, name)(*values)
            self.assertEqual([getattr(error, field) for field in fields], values, name)

    def test_fields_keep_none_and_integers_as_they_are(self):
        self.assertIsNone(errors.BadLot(None).name)
        error = errors.TooMany("lines", 31, 30)
        self.assertEqual((error.what, error.count, error.limit), ("lines", 31, 30))

    def test_errors_are_raised_and_caught(self):
        for name, fields in FIELDS.items():
            with self.assertRaises(errors.HomeError):
                raise getattr(errors, name)(*fields)


if __name__ == "__main__":
    unittest.main()
