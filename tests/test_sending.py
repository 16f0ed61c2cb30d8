"""Point 6 as far as a world does it: send, deliver, lose, repeat, packets."""

import unittest

from farheap.world import World
from worlds import ages, under_way


def giver(sites=2, gifts=1):
    """Return a world in which site 0 gave this many objects to each other site."""
    world = World(sites)
    for number in range(gifts):
        world.make(0, 0)
        for other in range(sites - 1, 0, -1):
            world.give(0, 0, other)
    return world


def data(source, target, number, letter):
    return (source, target, "data", number, letter)


def ack(source, target, count):
    return (source, target, "ack", count, None)


class SendingTest(unittest.TestCase):

    def test_a_letter_is_not_posted_before_the_site_sends(self):
        world = giver()
        self.assertEqual(world.packets(), [])
        world.send(1)
        self.assertEqual(world.packets(), [])
        world.send(0)
        self.assertEqual(world.packets(), [data(0, 1, 1, ("give", 0, (0, 0), None))])

    def test_targets_and_letters_ascend(self):
        world = giver(4, 2)
        world.send(0)
        # The gifts were put for site 3 first.
        self.assertEqual(world.packets(), [
            data(0, 1, 1, ("give", 2, (0, 0), None)), data(0, 1, 2, ("give", 5, (0, 1), None)),
            data(0, 2, 1, ("give", 1, (0, 0), None)), data(0, 2, 2, ("give", 4, (0, 1), None)),
            data(0, 3, 1, ("give", 0, (0, 0), None)), data(0, 3, 2, ("give", 3, (0, 1), None))])

    def test_targets_below_the_site_come_first(self):
        world = World(3)
        world.make(1, 0)
        world.give(1, 0, 2)
        world.give(1, 0, 0)
        self.assertEqual(under_way(world, 1), [(0, ("give", 1, (1, 0), None)), (2, ("give", 0, (1, 0), None))])

    def test_only_the_site_that_sends_posts(self):
        world = World(3)
        for site in range(3):
            world.make(site, 0)
            world.give(site, 0, (site + 1) % 3)
        for site in (2, 0, 1):
            world.send(site)
        self.assertEqual([packet[:2] for packet in world.packets()], [(2, 0), (0, 1), (1, 2)])

    def test_what_is_not_acknowledged_is_sent_again(self):
        world = giver(2, 2)
        world.send(0)
        once = world.packets()
        self.assertEqual(len(once), 2)
        world.send(0)
        self.assertEqual(world.packets(), once * 2)
        world.deliver(0)
        # The letter is accepted, but site 0 does not know it yet.
        world.send(0)
        self.assertEqual(world.packets(), [once[1]] + once + [ack(1, 0, 1)] + once)
        world.deliver(3)
        world.send(0)
        self.assertEqual(world.packets()[-2:], [once[1], once[1]])
        self.assertEqual(len(world.packets()), 6)

    def test_a_letter_is_accepted_once_and_each_data_packet_is_answered(self):
        world = giver()
        world.send(0)
        world.repeat(0)
        world.repeat(0)
        for count in range(3):
            world.deliver(0)
            self.assertEqual(world.arrivals(1), [(0, 0, (0, 0), None)])
            self.assertEqual(world.packets()[-1], ack(1, 0, 1))
        self.assertEqual(world.packets(), [ack(1, 0, 1)] * 3)

    def test_out_of_order(self):
        world = giver(2, 3)
        world.send(0)
        gifts = world.packets()
        world.deliver(2)
        self.assertEqual((world.arrivals(1), world.packets()), ([], gifts[:2] + [ack(1, 0, 0)]))
        world.deliver(1)
        self.assertEqual((world.arrivals(1), world.packets()), ([], gifts[:1] + [ack(1, 0, 0)] * 2))
        world.deliver(0)
        self.assertEqual(world.arrivals(1), [(0, 0, (0, 0), None)])
        self.assertEqual(world.packets(), [ack(1, 0, 0)] * 2 + [ack(1, 0, 1)])
        for _ in range(3):
            world.deliver(0)
        world.send(0)
        self.assertEqual(world.packets(), gifts[1:])
        world.deliver(0)
        world.deliver(0)
        self.assertEqual(world.arrivals(1), [(0, number, (0, number), None) for number in range(3)])
        self.assertEqual(world.packets(), [ack(1, 0, 2), ack(1, 0, 3)])

    def test_lost_packets(self):
        world = giver(2, 2)
        world.send(0)
        gifts = world.packets()
        world.lose(0)
        self.assertEqual(world.packets(), gifts[1:])
        world.deliver(0)
        self.assertEqual((world.arrivals(1), world.packets()), ([], [ack(1, 0, 0)]))
        world.lose(0)
        self.assertEqual(world.packets(), [])
        world.send(0)
        world.deliver(0)
        world.lose(1)
        self.assertEqual(world.arrivals(1), [(0, 0, (0, 0), None)])
        self.assertEqual(world.packets(), [gifts[1]])
        world.send(0)
        self.assertEqual(world.packets(), [gifts[1]] + gifts)

    def test_what_was_acknowledged_stays_acknowledged(self):
        world = giver(2, 2)
        world.send(0)
        gifts = world.packets()
        world.deliver(0)
        world.deliver(0)
        self.assertEqual(world.packets(), [ack(1, 0, 1), ack(1, 0, 2)])
        world.deliver(1)
        world.send(0)
        self.assertEqual(world.packets(), [ack(1, 0, 1)])
        world.deliver(0)
        world.send(0)
        self.assertEqual(world.packets(), [])
        # A late packet is answered all the same.
        world = giver(2, 2)
        world.send(0)
        world.repeat(0)
        for _ in range(3):
            world.deliver(0)
        self.assertEqual(world.packets(), [ack(1, 0, 1), ack(1, 0, 2), ack(1, 0, 2)])
        self.assertEqual(len(world.arrivals(1)), len(gifts))

    def test_an_answer_to_an_early_packet_acknowledges_nothing(self):
        world = giver(2, 2)
        world.send(0)
        gifts = world.packets()
        world.deliver(1)
        world.lose(0)
        world.deliver(0)
        world.send(0)
        self.assertEqual(world.packets(), gifts)

    def test_each_channel_counts_its_own_letters(self):
        world = giver(3, 2)
        world.send(0)
        # The first letter for site 2 is accepted although none for site 1 was.
        world.deliver(2)
        self.assertEqual((world.arrivals(1), len(world.arrivals(2))), ([], 1))
        self.assertEqual(world.packets()[-1], ack(2, 0, 1))
        world.deliver(3)
        self.assertEqual([target for target, _ in under_way_again(world)], [1, 1, 2])

    def test_there_and_back_are_two_channels(self):
        world = giver()
        world.send(0)
        world.deliver(0)
        world.send(1)
        self.assertEqual(world.packets(), [ack(1, 0, 1), data(1, 0, 1, ("enter", 0, 0))])
        world.deliver(1)
        self.assertEqual(world.packets(), [ack(1, 0, 1), ack(0, 1, 1)])
        self.assertEqual(world.entries(0), [(1, 0, None)])
        world.deliver(1)
        world.send(0)
        self.assertEqual(world.packets()[1:], [
            data(0, 1, 1, ("give", 0, (0, 0), None)), data(0, 1, 2, ("entered", 0))])

    def test_lose_and_repeat_of_any_index(self):
        world = giver(2, 4)
        world.send(0)
        gifts = world.packets()
        world.repeat(2)
        self.assertEqual(world.packets(), gifts + [gifts[2]])
        world.repeat(4)
        self.assertEqual(world.packets(), gifts + [gifts[2]] * 2)
        world.lose(1)
        self.assertEqual(world.packets(), [gifts[0]] + gifts[2:] + [gifts[2]] * 2)
        world.lose(4)
        self.assertEqual(world.packets(), [gifts[0]] + gifts[2:] + [gifts[2]])

    def test_losing_and_repeating_change_no_site(self):
        world = giver()
        world.send(0)
        world.repeat(0)
        world.lose(0)
        world.lose(0)
        self.assertEqual((world.arrivals(1), world.parcels(0), ages(world, 0)),
                         ([], [(0, 1, (0, 0))], (0, 0, 0, 0, None)))

    def test_the_kinds_of_what_is_in_a_packet(self):
        world = giver()
        world.send(0)
        world.deliver(0)
        world.send(0)
        for packet in world.packets():
            self.assertIs(type(packet), tuple)
            self.assertEqual([type(part) for part in packet[:4]], [int, int, str, int])
        self.assertEqual([type(packet[4]) for packet in world.packets()], [type(None), tuple])


def under_way_again(world):
    while world.packets():
        world.lose(0)
    return under_way(world, 0)


if __name__ == "__main__":
    unittest.main()
