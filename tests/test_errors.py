import unittest

from farheap.errors import Empty, FarheapError, NotFar, NotNear, Unknown

FOUR = (Unknown, Empty, NotNear, NotFar)


class ErrorsTest(unittest.TestCase):

    def test_a_farheap_error_is_a_value_error(self):
        self.assertTrue(issubclass(FarheapError, ValueError))

    def test_each_of_the_four_is_a_farheap_error(self):
        for error in FOUR:
            with self.subTest(error=error):
                self.assertTrue(issubclass(error, FarheapError))
                self.assertIsNot(error, FarheapError)

    def test_none_of_the_four_is_one_of_the_others(self):
        for error in FOUR:
            for other in FOUR:
                with self.subTest(error=error, other=other):
                    self.assertEqual(issubclass(error, other), error is other)

    def test_each_can_be_raised_and_caught_as_its_bases(self):
        for error in FOUR:
            for caught in (error, FarheapError, ValueError):
                with self.subTest(error=error, caught=caught):
                    with self.assertRaises(caught):
                        raise error("why")

    def test_a_value_error_is_not_caught_as_a_farheap_error(self):
        self.assertFalse(issubclass(ValueError, FarheapError))

    def test_each_is_defined_in_its_module_under_its_name(self):
        names = ("FarheapError", "Unknown", "Empty", "NotNear", "NotFar")
        for error, name in zip((FarheapError,) + FOUR, names):
            with self.subTest(name=name):
                self.assertEqual(error.__module__, "farheap.errors")
                self.assertEqual(error.__name__, name)


if __name__ == "__main__":
    unittest.main()
