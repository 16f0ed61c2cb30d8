import unittest

from farheap.channels import Outgoing


def filled(count):
    out = Outgoing()
    for number in range(1, count + 1):
        out.put(("got", number))
    return out


def pairs(first, last):
    return [(number, ("got", number)) for number in range(first, last + 1)]


class OutgoingTest(unittest.TestCase):

    def check(self, out, put_count, acknowledged, due):
        self.assertEqual(out.put_count, put_count)
        self.assertEqual(out.acknowledged, acknowledged)
        self.assertEqual(out.due(), due)

    def test_a_new_one_has_no_letters(self):
        self.check(Outgoing(), 0, 0, [])

    def test_it_is_defined_with_its_methods_in_its_module(self):
        self.assertEqual(Outgoing.__module__, "farheap.channels")
        for name in ("put", "due", "acknowledge"):
            self.assertIn(name, vars(Outgoing))
        for name in ("put_count", "acknowledged"):
            self.assertIsInstance(vars(Outgoing)[name], property)

    def test_put_returns_the_number_counted_from_1(self):
        out = Outgoing()
        self.assertEqual([out.put(("got", 7)), out.put(("leave", 0)), out.put(("none", 1))], [1, 2, 3])
        self.check(out, 3, 0, [(1, ("got", 7)), (2, ("leave", 0)), (3, ("none", 1))])

    def test_put_counts_on_behind_acknowledged_letters(self):
        out = filled(3)
        out.acknowledge(2)
        self.assertEqual(out.put(("got", 4)), 4)
        out.acknowledge(4)
        self.assertEqual(out.put(("got", 5)), 5)
        self.check(out, 5, 4, pairs(5, 5))

    def test_equal_letters_are_two_letters(self):
        out = Outgoing()
        letter = ("enter", 5, 2)
        self.assertEqual(out.put(letter), 1)
        self.assertEqual(out.put(letter), 2)
        self.assertEqual(out.put(("enter", 5, 2)), 3)
        self.check(out, 3, 0, [(1, letter), (2, letter), (3, letter)])
        out.acknowledge(1)
        self.check(out, 3, 1, [(2, letter), (3, letter)])

    def test_a_letter_is_given_back_as_it_was_put(self):
        out = Outgoing()
        letters = [("give", 0, (1, 2), None), ("stamp", 3, -4), (), ("tell", 1, 0)]
        for letter in letters:
            out.put(letter)
        self.assertEqual([letter for _, letter in out.due()], letters)

    def test_due_gives_tuples_in_a_list(self):
        due = filled(2).due()
        self.assertIs(type(due), list)
        for pair in due:
            self.assertIs(type(pair), tuple)
            self.assertIs(type(pair[0]), int)

    def test_asking_changes_nothing(self):
        out = filled(4)
        out.acknowledge(1)
        for _ in range(3):
            self.check(out, 4, 1, pairs(2, 4))

    def test_acknowledge_in_between(self):
        out = filled(5)
        self.assertIsNone(out.acknowledge(2))
        self.check(out, 5, 2, pairs(3, 5))
        out.acknowledge(3)
        self.check(out, 5, 3, pairs(4, 5))

    def test_acknowledge_below_what_can_be_numbers(self):
        for number in (0, -1, -2, -5, -6, -10 ** 30):
            with self.subTest(number=number):
                out = filled(5)
                out.acknowledge(number)
                self.check(out, 5, 0, pairs(1, 5))
                out.acknowledge(3)
                out.acknowledge(number)
                self.check(out, 5, 3, pairs(4, 5))

    def test_what_was_acknowledged_stays_acknowledged(self):
        out = filled(6)
        out.acknowledge(4)
        for number in (3, 2, 1, 4):
            with self.subTest(number=number):
                out.acknowledge(number)
                self.check(out, 6, 4, pairs(5, 6))

    def test_acknowledge_the_number_of_letters(self):
        out = filled(5)
        out.acknowledge(5)
        self.check(out, 5, 5, [])
        out.acknowledge(5)
        self.check(out, 5, 5, [])

    def test_acknowledge_without_letters(self):
        out = Outgoing()
        for number in (0, -1):
            out.acknowledge(number)
            self.check(out, 0, 0, [])

    def test_acknowledge_beyond_the_letters_acknowledges_no_later_one(self):
        out = filled(2)
        out.acknowledge(4)
        self.check(out, 2, 2, [])
        self.assertEqual(out.put(("got", 3)), 3)
        self.check(out, 3, 2, pairs(3, 3))

    def test_several_hundred_letters(self):
        out = Outgoing()
        for number in range(1, 701):
            self.assertEqual(out.put(("got", number)), number)
        for number in range(0, 701, 50):
            out.acknowledge(number)
            self.assertEqual((out.put_count, out.acknowledged), (700, number))
            # Not assertEqual: it takes minutes to show how two long lists differ.
            self.assertTrue(out.due() == pairs(number + 1, 700))

    def test_the_list_belongs_to_the_caller(self):
        out = filled(3)
        due = out.due()
        due.append((9, ("got", 9)))
        due[0] = None
        self.check(out, 3, 0, pairs(1, 3))
        out.due().clear()
        self.check(out, 3, 0, pairs(1, 3))

    def test_a_returned_list_does_not_change_later(self):
        out = filled(3)
        due = out.due()
        out.put(("got", 4))
        out.acknowledge(2)
        self.assertEqual(due, pairs(1, 3))

    def test_two_objects_share_nothing(self):
        one, other = Outgoing(), Outgoing()
        one.put(("got", 1))
        one.put(("got", 2))
        one.acknowledge(1)
        self.check(other, 0, 0, [])
        self.assertEqual(other.put(("leave", 3)), 1)
        self.check(one, 2, 1, pairs(2, 2))
        self.check(other, 1, 0, [(1, ("leave", 3))])


if __name__ == "__main__":
    unittest.main()
