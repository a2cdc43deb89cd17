import unittest

from hushdrawers import errors

FIELDS = {
    "BadHouse": "word", "BadStory": "index", "BadLife": "index", "BadCoins": "index",
    "BadText": "line", "BadLine": "word", "TooMany": "most",
}
BARE = ("BadDrawer", "BadPage", "BadTimes", "BadNumber")


class Errors(unittest.TestCase):
    def test_base(self):
        self.assertEqual(errors.DrawerError.__bases__, (ValueError,))

    def test_each_stands_directly_beneath_the_base(self):
        for name in (*FIELDS, *BARE):
            self.assertEqual(getattr(errors, name).__bases__, (errors.DrawerError,), name)

    def test_fields(self):
        for name, field in FIELDS.items():
            for value in ("form", 3, None):
                self.assertEqual(vars(getattr(errors, name)(value)), {field: value}, name)
            with self.assertRaises(TypeError):
                getattr(errors, name)()

    def test_without_fields(self):
        for name in BARE:
            self.assertEqual(vars(getattr(errors, name)()), {}, name)

    def test_no_other_errors(self):
        found = [name for name, value in vars(errors).items() if isinstance(value, type)]
        self.assertEqual(sorted(found), sorted((*FIELDS, *BARE, "DrawerError")))


if __name__ == "__main__":
    unittest.main()
