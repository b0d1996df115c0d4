import unittest

from thirstwise import errors

NAMES = ("BadPot", "BadRow", "TooMany", "NoState", "NoPot", "BadDay")


class ErrorsTest(unittest.TestCase):

    def test_garden_error_is_a_value_error(self):
        self.assertEqual(errors.GardenError.__bases__, (ValueError,))

    def test_each_stands_alone_beneath_garden_error(self):
        for name in NAMES:
            with self.subTest(name=name):
                self.assertEqual(getattr(errors, name).__bases__, (errors.GardenError,))

    def test_bad_row_tells_its_row(self):
        self.assertEqual(errors.BadRow(3).row, 3)
        self.assertEqual(errors.BadRow(1).row, 1)

    def test_bad_day_tells_its_day(self):
        self.assertEqual(errors.BadDay(0).day, 0)
        self.assertEqual(errors.BadDay(17).day, 17)


if __name__ == "__main__":
    unittest.main()
