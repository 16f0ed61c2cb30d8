import unittest

from farheap.channels import Network
from farheap.errors import Empty, NotFar, NotNear, Unknown


def packet(number):
    return (0, 1, "data", number, ("got", number))


def posted(count):
    net = Network()
    for number in range(count):
        net.post(packet(number))
    return net


class NetworkTest(unittest.TestCase):

    def check(self, net, packets):
        self.assertEqual(net.packets(), packets)
        self.assertEqual(list(net), packets)
        self.assertEqual([each for each in net], packets)
        self.assertEqual(len(net), len(packets))

    def check_numbers(self, net, numbers):
        self.check(net, [packet(number) for number in numbers])

    def test_it_is_defined_with_its_methods_in_its_module(self):
        self.assertEqual(Network.__module__, "farheap.channels")
        for name in ("post", "take_out", "repeat", "packets", "__len__", "__iter__"):
            self.assertIn(name, vars(Network))

    def test_an_empty_network(self):
        net = Network()
        self.check(net, [])
        for index in (0, 1, -1, 5):
            for method in (net.take_out, net.repeat):
                with self.subTest(index=index, method=method):
                    self.assertRaises(Unknown, method, index)
                    self.check(net, [])

    def test_post_adds_to_the_end(self):
        net = Network()
        for number in range(5):
            self.assertIsNone(net.post(packet(number)))
            self.check_numbers(net, range(number + 1))

    def test_packets_stay_as_they_were_posted(self):
        packets = [(1, 0, "ack", 3, None), (0, 1, "data", 1, ("give", 0, (1, 2), None)), ()]
        net = Network()
        for each in packets:
            net.post(each)
        self.check(net, packets)
        self.assertEqual([net.take_out(0) for _ in packets], packets)

    def test_take_out_removes_and_returns_the_packet(self):
        for index in range(4):
            with self.subTest(index=index):
                net = posted(4)
                self.assertEqual(net.take_out(index), packet(index))
                self.check_numbers(net, [number for number in range(4) if number != index])

    def test_take_out_until_it_is_empty(self):
        net = posted(3)
        self.assertEqual([net.take_out(1), net.take_out(1), net.take_out(0)],
                         [packet(1), packet(2), packet(0)])
        self.check(net, [])
        self.assertRaises(Unknown, net.take_out, 0)

    def test_post_after_take_out_adds_to_the_end(self):
        net = posted(3)
        net.take_out(0)
        net.post(packet(0))
        self.check_numbers(net, [1, 2, 0])

    def test_repeat_adds_the_packet_once_more(self):
        for index in range(4):
            with self.subTest(index=index):
                net = posted(4)
                self.assertIsNone(net.repeat(index))
                self.check_numbers(net, [0, 1, 2, 3, index])

    def test_a_repeated_packet_can_be_repeated_and_taken_out(self):
        net = posted(2)
        net.repeat(0)
        net.repeat(2)
        self.check_numbers(net, [0, 1, 0, 0])
        net.take_out(0)
        self.check_numbers(net, [1, 0, 0])

    def test_repeat_of_the_only_packet(self):
        net = posted(1)
        net.repeat(0)
        self.check_numbers(net, [0, 0])

    def test_equal_packets_are_kept_apart(self):
        net = Network()
        for each in (packet(1), packet(2), packet(1), packet(1), packet(3)):
            net.post(each)
        self.check_numbers(net, [1, 2, 1, 1, 3])
        self.assertEqual(net.take_out(2), packet(1))
        self.check_numbers(net, [1, 2, 1, 3])
        self.assertEqual(net.take_out(2), packet(1))
        self.check_numbers(net, [1, 2, 3])
        self.assertEqual(net.take_out(0), packet(1))
        self.check_numbers(net, [2, 3])

    def test_every_index_that_there_is_none_of(self):
        for count in (0, 1, 3):
            net = posted(count)
            wrong = [count, count + 1, count + 100, 10 ** 40, -1, -2, -3, -count - 1, -10 ** 40]
            for index in wrong:
                for method in (net.take_out, net.repeat):
                    with self.subTest(count=count, index=index, method=method):
                        self.assertRaises(Unknown, method, index)
                        self.check_numbers(net, range(count))

    def test_an_index_of_thousands_of_digits(self):
        net = posted(2)
        for index in (10 ** 6000, -10 ** 6000):
            self.assertRaises(Unknown, net.take_out, index)
            self.assertRaises(Unknown, net.repeat, index)
        self.check_numbers(net, range(2))

    def test_the_error_is_no_other_one(self):
        for method in (Network().take_out, Network().repeat):
            with self.assertRaises(Unknown) as caught:
                method(0)
            for other in (Empty, NotNear, NotFar):
                self.assertNotIsInstance(caught.exception, other)

    def test_a_thousand_packets(self):
        net = posted(1000)
        # Not assertEqual: it takes minutes to show how two long lists differ.
        self.assertTrue(net.packets() == list(net) == [packet(number) for number in range(1000)])
        self.assertEqual(len(net), 1000)
        self.assertRaises(Unknown, net.take_out, 1000)
        self.assertRaises(Unknown, net.repeat, 1000)
        net.repeat(999)
        self.assertEqual(net.take_out(1000), packet(999))
        self.assertEqual(net.take_out(500), packet(500))
        for number in range(1000):
            if number != 500:
                self.assertEqual(net.take_out(0), packet(number))
        self.check(net, [])

    def test_the_list_belongs_to_the_caller(self):
        net = posted(3)
        packets = net.packets()
        self.assertIs(type(packets), list)
        packets.append(packet(9))
        packets[0] = None
        self.check_numbers(net, range(3))
        net.packets().clear()
        self.check_numbers(net, range(3))

    def test_a_returned_list_does_not_change_later(self):
        net = posted(2)
        packets = net.packets()
        net.post(packet(2))
        net.take_out(0)
        self.assertEqual(packets, [packet(0), packet(1)])

    def test_asking_changes_nothing(self):
        net = posted(3)
        self.assertEqual(next(iter(net)), packet(0))
        self.assertIn(packet(2), net)
        self.assertNotIn(packet(3), net)
        self.check_numbers(net, range(3))

    def test_two_iterations_at_once(self):
        net = posted(3)
        both = [(one[3], other[3]) for one in net for other in net]
        self.assertEqual(both, [(one, other) for one in range(3) for other in range(3)])

    def test_two_networks_share_nothing(self):
        one, other = Network(), Network()
        one.post(packet(1))
        one.repeat(0)
        self.check(other, [])
        other.post(packet(2))
        self.check_numbers(one, [1, 1])
        one.take_out(0)
        self.check_numbers(other, [2])
        self.check_numbers(one, [1])


if __name__ == "__main__":
    unittest.main()
