import unittest

from askedpairs.errors import NoRise, NoText, NotTwoSided, PairsError, TooMany


class Errors(unittest.TestCase):
    def test_all_stand_under_pairs_error(self):
        self.assertEqual(PairsError.__bases__, (ValueError,))
        for error in (TooMany, NoRise, NotTwoSided, NoText):
            self.assertEqual(error.__bases__, (PairsError,))

    def test_each_is_an_error_of_its_own(self):
        kinds = [TooMany, NoRise, NotTwoSided, NoText]
        for error in kinds:
            for other in kinds:
                self.assertEqual(issubclass(error, other), error is other)

    def test_they_can_be_raised_and_taken(self):
        for error in (PairsError, TooMany, NoRise, NotTwoSided, NoText):
            with self.assertRaises(PairsError):
                raise error("words")


if __name__ == "__main__":
    unittest.main()
