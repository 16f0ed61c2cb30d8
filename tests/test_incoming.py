import unittest

from farheap.channels import Incoming


def accepted(count):
    come = Incoming()
    for _ in range(count):
        come.accept()
    return come


class IncomingTest(unittest.TestCase):

    def test_it_is_defined_with_its_methods_in_its_module(self):
        self.assertEqual(Incoming.__module__, "farheap.channels")
        for name in ("accepts", "accept"):
            self.assertIn(name, vars(Incoming))

    def test_the_count_begins_with_0_and_is_set_on_the_object(self):
        come = Incoming()
        self.assertEqual(come.count, 0)
        self.assertIn("count", vars(come))

    def test_the_count_counts_the_accepted_letters(self):
        come = Incoming()
        for count in range(1, 301):
            self.assertIsNone(come.accept())
            self.assertEqual(come.count, count)

    def test_only_the_next_number_is_accepted(self):
        for count in (0, 1, 2, 5, 300):
            come = accepted(count)
            self.assertIs(come.accepts(count + 1), True)
            for number in range(-10, 320):
                with self.subTest(count=count, number=number):
                    self.assertIs(come.accepts(number), number == count + 1)

    def test_zero_negative_and_great_numbers_are_not_accepted(self):
        for count in (0, 1, 7):
            come = accepted(count)
            for number in (0, -1, -count, -count - 1, count, count + 2, 10 ** 6, 10 ** 40, -10 ** 40):
                with self.subTest(count=count, number=number):
                    self.assertIs(come.accepts(number), False)

    def test_asking_changes_nothing(self):
        come = accepted(3)
        for number in (4, 4, 5, 0, -1, 4):
            come.accepts(number)
            self.assertEqual(come.count, 3)
        self.assertIs(come.accepts(4), True)
        self.assertIs(come.accepts(5), False)

    def test_two_objects_share_nothing(self):
        one, other = Incoming(), Incoming()
        one.accept()
        one.accept()
        self.assertEqual((one.count, other.count), (2, 0))
        self.assertIs(other.accepts(1), True)
        self.assertIs(other.accepts(3), False)
        other.accept()
        self.assertEqual((one.count, other.count), (2, 1))


if __name__ == "__main__":
    unittest.main()
