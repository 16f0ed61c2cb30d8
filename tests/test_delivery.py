"""The classes of farheap.channels put together as point 6 says."""

import random
import unittest

from farheap.channels import Incoming, Network, Outgoing


class Post:
    """Sites that do nothing but send, accept and acknowledge the letters of some channels."""

    def __init__(self, channels):
        self.net = Network()
        self.out = {channel: Outgoing() for channel in sorted(channels)}
        self.come = {channel: Incoming() for channel in channels}
        self.handled = {channel: [] for channel in channels}

    def send(self, site):
        for source, target in self.out:
            if source == site:
                for number, letter in self.out[source, target].due():
                    self.net.post((source, target, "data", number, letter))

    def deliver(self, index):
        source, target, kind, number, letter = self.net.take_out(index)
        if kind == "ack":
            self.out[target, source].acknowledge(number)
            return
        come = self.come[source, target]
        if come.accepts(number):
            come.accept()
            self.handled[source, target].append(letter)
        self.net.post((target, source, "ack", come.count, None))

    def under_way(self):
        return [(kind, number) for _, _, kind, number, _ in self.net]


def data(source, target, number, letter):
    return (source, target, "data", number, letter)


def ack(source, target, count):
    return (source, target, "ack", count, None)


class DeliveryTest(unittest.TestCase):

    def test_a_letter_that_is_put_is_not_posted_before_the_site_sends(self):
        post = Post([(0, 1)])
        post.out[0, 1].put(("got", 1))
        self.assertEqual(len(post.net), 0)
        post.send(0)
        self.assertEqual(post.net.packets(), [data(0, 1, 1, ("got", 1))])

    def test_packets_out_of_order_and_repeated(self):
        post = Post([(0, 1), (1, 0)])
        for letter in (("got", 5), ("got", 5), ("leave", 2)):
            post.out[0, 1].put(letter)
        post.out[1, 0].put(("none", 7))
        post.send(0)
        post.send(1)
        self.assertEqual(post.net.packets(), [
            data(0, 1, 1, ("got", 5)), data(0, 1, 2, ("got", 5)), data(0, 1, 3, ("leave", 2)),
            data(1, 0, 1, ("none", 7))])
        post.deliver(2)
        self.assertEqual(post.handled[0, 1], [])
        self.assertEqual(post.net.packets()[-1], ack(1, 0, 0))
        post.net.repeat(0)
        post.deliver(0)
        self.assertEqual(post.handled[0, 1], [("got", 5)])
        self.assertEqual(post.net.packets(), [
            data(0, 1, 2, ("got", 5)), data(1, 0, 1, ("none", 7)), ack(1, 0, 0),
            data(0, 1, 1, ("got", 5)), ack(1, 0, 1)])
        post.deliver(3)
        self.assertEqual(post.handled[0, 1], [("got", 5)])
        self.assertEqual(post.net.packets()[-1], ack(1, 0, 1))
        post.deliver(0)
        self.assertEqual(post.handled, {(0, 1): [("got", 5), ("got", 5)], (1, 0): []})
        self.assertEqual(post.net.packets()[-1], ack(1, 0, 2))

    def test_late_acknowledgements_take_nothing_back(self):
        post = Post([(0, 1)])
        post.out[0, 1].put(("got", 1))
        post.out[0, 1].put(("got", 2))
        post.send(0)
        post.deliver(0)
        post.deliver(0)
        self.assertEqual(post.net.packets(), [ack(1, 0, 1), ack(1, 0, 2)])
        post.deliver(1)
        self.assertEqual(post.out[0, 1].acknowledged, 2)
        post.deliver(0)
        self.assertEqual(post.out[0, 1].acknowledged, 2)
        post.send(0)
        self.assertEqual(len(post.net), 0)

    def test_a_lost_packet_is_sent_again(self):
        post = Post([(0, 1)])
        post.out[0, 1].put(("got", 1))
        post.out[0, 1].put(("got", 2))
        post.send(0)
        post.net.take_out(0)
        post.deliver(0)
        post.deliver(0)
        self.assertEqual((post.handled[0, 1], post.out[0, 1].acknowledged), ([], 0))
        post.send(0)
        self.assertEqual(post.under_way(), [("data", 1), ("data", 2)])
        post.deliver(0)
        post.net.take_out(1)
        post.deliver(0)
        self.assertEqual((post.handled[0, 1], post.out[0, 1].acknowledged), ([("got", 1), ("got", 2)], 0))
        post.deliver(0)
        self.assertEqual((post.out[0, 1].acknowledged, len(post.net)), (2, 0))

    def test_a_lost_acknowledgement_makes_no_letter_accepted_twice(self):
        post = Post([(0, 1)])
        post.out[0, 1].put(("got", 1))
        post.send(0)
        post.deliver(0)
        post.net.take_out(0)
        post.send(0)
        post.deliver(0)
        self.assertEqual((post.handled[0, 1], post.come[0, 1].count), ([("got", 1)], 1))
        post.deliver(0)
        self.assertEqual(post.out[0, 1].due(), [])

    def stir(self, post, chance, steps):
        for _ in range(steps):
            post.send(chance.choice([0, 1, 2]))
            for _ in range(4):
                if len(post.net) == 0:
                    break
                index = chance.randrange(len(post.net))
                chance.choice([post.deliver, post.deliver, post.net.take_out, post.net.repeat])(index)

    def settle(self, post):
        # A second round finds nothing to send. The bounds keep a faulty program from running on.
        for _ in range(2):
            for site in range(3):
                post.send(site)
            for _ in range(1000):
                if len(post.net) == 0:
                    break
                post.deliver(0)
        self.assertEqual(len(post.net), 0)

    def test_any_course_delivers_each_letter_once_and_in_its_turn(self):
        for seed in range(40):
            for channels in ([(0, 1), (1, 0)], [(0, 1), (0, 2)], [(0, 2), (1, 2)]):
                with self.subTest(seed=seed, channels=channels):
                    chance = random.Random(seed)
                    post = Post(channels)
                    put = {channel: [] for channel in channels}
                    for turn in range(10):
                        channel = chance.choice(channels)
                        letter = ("got", chance.randrange(3))
                        put[channel].append(letter)
                        self.assertEqual(post.out[channel].put(letter), len(put[channel]))
                        self.stir(post, chance, 2)
                        for each in channels:
                            count = post.come[each].count
                            self.assertEqual(post.handled[each], put[each][:count])
                            self.assertLessEqual(post.out[each].acknowledged, count)
                    self.settle(post)
                    self.assertEqual(post.handled, put)
                    for each in channels:
                        out, count = post.out[each], len(put[each])
                        self.assertEqual((out.put_count, out.acknowledged, out.due()), (count, count, []))
                        self.assertEqual(post.come[each].count, count)


if __name__ == "__main__":
    unittest.main()
