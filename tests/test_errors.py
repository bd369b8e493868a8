"""The error classes of the interface: which stands under which."""

import unittest

from choosehall.errors import BadLine, HallError, NoComer, NoHouse, Twice

REFUSALS = (BadLine, NoComer, NoHouse, Twice)


class ErrorClasses(unittest.TestCase):
    def test_any_refusal_is_a_value_error(self):
        self.assertEqual(HallError.__bases__, (ValueError,))

    def test_each_refusal_is_a_hall_error(self):
        for refusal in REFUSALS:
            self.assertEqual(refusal.__bases__, (HallError,))

    def test_none_is_another_one(self):
        for one in REFUSALS:
            for other in REFUSALS:
                self.assertEqual(issubclass(one, other), one is other)

    def test_they_are_called_as_the_interface_says(self):
        names = [refusal.__name__ for refusal in (HallError,) + REFUSALS]
        self.assertEqual(names, ["HallError", "BadLine", "NoComer", "NoHouse", "Twice"])


if __name__ == "__main__":
    unittest.main()
