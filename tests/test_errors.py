"""The errors of the package (the interface, dropframes/errors.py)."""

import unittest

from dropframes import errors

WITHOUT_FIELDS = ["BadGap", "BadFilm", "BadPicture", "BadStep", "BadNumber", "BadChance", "BadView"]
FIELDS = {"BadReel": "part", "BadReels": "index", "BadLine": "line", "TooMany": "most"}
WORTHS = {"BadReel": ["reel", "nexts", "pictures"], "BadReels": [None, 0, 5], "BadLine": [0, 12], "TooMany": [7, 24]}


class Errors(unittest.TestCase):
    def test_base(self):
        self.assertEqual(errors.ReelError.__bases__, (ValueError,))
        self.assertEqual(errors.ReelError.__module__, "dropframes.errors")

    def test_direct_subclasses(self):
        for name in WITHOUT_FIELDS + list(FIELDS):
            with self.subTest(name):
                error = getattr(errors, name)
                self.assertEqual(error.__bases__, (errors.ReelError,))
                self.assertEqual(error.__module__, "dropframes.errors")
        found = [error.__name__ for error in errors.ReelError.__subclasses__()]
        self.assertEqual(sorted(found), sorted(WITHOUT_FIELDS + list(FIELDS)))

    def test_fields(self):
        for name, field in FIELDS.items():
            for worth in WORTHS[name]:
                with self.subTest(name, worth=worth):
                    error = getattr(errors, name)(worth)
                    self.assertEqual(vars(error), {field: worth})
                    self.assertIs(getattr(getattr(errors, name)(**{field: worth}), field), worth)

    def test_no_fields(self):
        for name in WITHOUT_FIELDS:
            with self.subTest(name):
                self.assertEqual(vars(getattr(errors, name)()), {})


if __name__ == "__main__":
    unittest.main()
