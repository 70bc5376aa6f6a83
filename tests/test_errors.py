"""[2]: the error classes."""

import unittest

from carfax.errors import BadCars, BadCutting, BadMove, BadNet, BadState, CarfaxError, TooLong
from carfax.nets import check_cars, check_net
from carfax.states import check_state
from tests.samples import LEAST

ERRORS = [BadNet, BadCars, BadState, BadCutting, BadMove, TooLong]


class ErrorsTest(unittest.TestCase):
    def test_each_is_a_carfax_error(self):
        for error in ERRORS:
            with self.subTest(error=error.__name__):
                self.assertTrue(issubclass(error, CarfaxError))
                self.assertIsNot(error, CarfaxError)
                self.assertIsInstance(error("why"), CarfaxError)
                self.assertIsInstance(error("why"), ValueError)

    def test_the_base_is_a_value_error(self):
        self.assertTrue(issubclass(CarfaxError, ValueError))
        self.assertIsNot(CarfaxError, ValueError)
        for error in ERRORS:
            self.assertNotIsInstance(CarfaxError("why"), error)

    def test_none_derives_from_another_one(self):
        for error in ERRORS:
            for other in ERRORS:
                with self.subTest(error=error.__name__, other=other.__name__):
                    self.assertEqual(issubclass(error, other), error is other)

    def test_none_is_an_error_of_another_kind(self):
        for error in [CarfaxError] + ERRORS:
            for other in (UnicodeError, TypeError, LookupError, ArithmeticError, RuntimeError, OSError):
                with self.subTest(error=error.__name__, other=other.__name__):
                    self.assertFalse(issubclass(error, other))

    def test_the_names(self):
        names = [error.__name__ for error in [CarfaxError] + ERRORS]
        self.assertEqual(names, [
            "CarfaxError", "BadNet", "BadCars", "BadState", "BadCutting", "BadMove", "TooLong",
        ])

    def test_what_is_raised_has_no_fields(self):
        for check in (
            lambda: check_net(None),
            lambda: check_cars(LEAST, None),
            lambda: check_state(LEAST, (), None),
        ):
            with self.assertRaises(CarfaxError) as caught:
                check()
            self.assertEqual(vars(caught.exception), {})


if __name__ == "__main__":
    unittest.main()
