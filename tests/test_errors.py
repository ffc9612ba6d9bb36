import unittest

from wishcount.errors import NoBallot, WishError


class Errors(unittest.TestCase):
    def test_wish_error_stands_below_value_error(self):
        self.assertEqual(WishError.__bases__, (ValueError,))

    def test_no_ballot_stands_below_wish_error(self):
        self.assertTrue(issubclass(NoBallot, WishError))
        self.assertIsNot(NoBallot, WishError)

    def test_each_is_raised_and_taken_by_the_names_above_it(self):
        for above in (NoBallot, WishError, ValueError):
            with self.assertRaises(above):
                raise NoBallot("no ballot 3")
        with self.assertRaises(WishError):
            raise WishError("no")

    def test_a_wish_error_is_no_no_ballot(self):
        self.assertNotIsInstance(WishError("no"), NoBallot)


if __name__ == "__main__":
    unittest.main()
