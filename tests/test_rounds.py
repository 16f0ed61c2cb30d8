"""Points 18 to 20, as far as single worlds show them: flush, calm_round and live."""

import unittest

from farheap.world import World
from worlds import busy_world, carry, handed, shown, under_way


def all_acknowledged(world, sites):
    return all(under_way(world, site) == [] for site in range(sites))


def plain_flush(world, sites):
    while world.packets() or not all_acknowledged(world, sites):
        for site in range(sites):
            world.send(site)
        while world.packets():
            world.deliver(0)


def plain_round(world, sites):
    for site in range(sites):
        world.collect(site)
    plain_flush(world, sites)
    world.begin_wave()
    plain_flush(world, sites)


class FlushTest(unittest.TestCase):

    def test_nothing_to_flush(self):
        world = World(2)
        world.make(0, 0)
        before = shown(world, 2)
        world.flush()
        self.assertEqual(shown(world, 2), before)

    def test_a_packet_where_all_letters_are_acknowledged(self):
        world = World(2)
        world.begin_wave()
        world.send(0)
        world.repeat(0)
        for _ in range(2):
            world.deliver(1)
        world.send(1)
        for _ in range(2):
            world.deliver(1)
        self.assertEqual(world.packets(), [(0, 1, "data", 1, ("ask", 1, 0))])
        world.flush()
        self.assertEqual(world.packets(), [])
        self.assertTrue(all_acknowledged(world, 2))

    def test_letters_without_packets(self):
        world = World(3)
        world.make(2, 0)
        world.give(2, 0, 0)
        world.give(2, 0, 1)
        world.flush()
        self.assertEqual((world.inbox(0), world.inbox(1)), ([(2, 0)], [(2, 0)]))
        self.assertEqual((world.packets(), world.parcels(2)), ([], []))
        self.assertTrue(all_acknowledged(world, 3))

    def test_letters_that_were_accepted_and_not_acknowledged(self):
        world = World(2)
        world.make(0, 0)
        handed(world, 0, 0, 1, 0)
        world.collect(1)
        carry(world, 1, 0, answered=False)
        self.assertEqual(world.pending(1), 0)
        world.flush()
        self.assertEqual(world.pending(1), None)
        self.assertTrue(all_acknowledged(world, 2))

    def test_it_goes_as_the_document_says(self):
        for prepare in (self.with_gifts, self.with_gifts_in_disorder, busy_world):
            world, plain = prepare(), prepare()
            world.flush()
            plain_flush(plain, 3)
            self.assertEqual(shown(world, 3), shown(plain, 3))
            self.assertEqual(world.packets(), [])
            self.assertTrue(all_acknowledged(world, 3))

    def with_gifts(self):
        world = World(3)
        for site in (2, 0, 1):
            for variable in range(2):
                world.make(site, variable)
                for other in range(3):
                    if other != site:
                        world.give(site, variable, other)
        return world

    def with_gifts_in_disorder(self):
        world = self.with_gifts()
        for site in (2, 1, 0):
            world.send(site)
        for index in (9, 0, 3, 5, 1):
            world.deliver(index)
        world.repeat(4)
        world.lose(2)
        return world

    def test_the_first_packet_is_delivered_first_and_sites_send_in_ascending_order(self):
        # Site 0 gets a near gift from each of the others: site 1 sends first.
        world = World(3)
        world.make(0, 0)
        world.make(0, 1)
        handed(world, 0, 0, 1, 0)
        handed(world, 0, 1, 2, 0)
        world.give(2, 0, 0)
        world.give(1, 0, 0)
        world.flush()
        self.assertEqual(world.inbox(0), [(0, 0), (0, 1)])
        # What is in the list already comes first.
        world.give(2, 0, 0)
        world.give(1, 0, 0)
        world.send(2)
        world.flush()
        self.assertEqual(world.inbox(0)[2:], [(0, 1), (0, 0)])


class CalmRoundTest(unittest.TestCase):

    def test_it_goes_as_the_document_says(self):
        for prepare in (busy_world, FlushTest().with_gifts, FlushTest().with_gifts_in_disorder):
            world, plain = prepare(), prepare()
            for _ in range(5):
                world.calm_round()
                plain_round(plain, 3)
                self.assertEqual(shown(world, 3), shown(plain, 3))

    def test_the_sites_collect_before_the_wave_begins(self):
        world = World(2)
        for clock in range(1, 5):
            world.calm_round()
            for site in (0, 1):
                self.assertEqual((world.clock(site), world.settled(site)), (clock, clock - 1))

    def test_an_open_wave_is_not_begun_anew(self):
        world = World(2)
        world.begin_wave()
        carry(world, 0, 1)
        world.calm_round()
        # The wave ended in the first flush, so the round began another one.
        self.assertEqual((world.clock(0), world.clock(1)), (2, 2))
        self.assertTrue(world.begin_wave())

    def test_a_world_with_one_site(self):
        world = World(1)
        world.make(0, 0)
        world.make(0, 0)
        world.calm_round()
        self.assertEqual((world.objects(0), world.clock(0), world.settled(0), world.packets()), ([1], 1, 0, []))

    def test_a_ring_over_two_sites_goes_within_eight_rounds(self):
        world = World(2)
        for site in (0, 1):
            world.make(site, 0, size=1)
        for site in (0, 1):
            handed(world, site, 0, 1 - site, 1)
        for site in (0, 1):
            world.write(site, 0, 0, 1)
            world.reset(site, 0)
        for _ in range(4):
            world.calm_round()
        self.assertEqual(world.live(), [(0, 0), (1, 0)])
        for site in (0, 1):
            world.reset(site, 1)
        self.assertEqual((world.live(), world.objects(0), world.objects(1)), ([], [0], [0]))
        # Two entries, and six rounds more.
        for _ in range(8):
            world.calm_round()
        for site in (0, 1):
            self.assertEqual((world.objects(site), world.holdings(site), world.entries(site)), ([], [], []))


class LiveTest(unittest.TestCase):

    def test_nothing_is_live_at_first(self):
        self.assertEqual(World(3).live(), [])

    def test_variables_of_all_sites(self):
        world = World(3)
        for site in (2, 0, 1):
            for _ in range(2):
                world.make(site, 0)
            world.make(site, 7)
        self.assertEqual(world.live(), [(0, 1), (0, 2), (1, 1), (1, 2), (2, 1), (2, 2)])
        world.reset(1, 0)
        self.assertEqual(world.live(), [(0, 1), (0, 2), (1, 2), (2, 1), (2, 2)])

    def test_what_is_not_live_may_exist(self):
        world = World(1)
        world.make(0, 0)
        world.reset(0, 0)
        self.assertEqual((world.live(), world.objects(0)), ([], [0]))

    def test_fields_over_several_sites(self):
        world = World(3)
        for site in range(3):
            world.make(site, 0, size=2)
        for site in range(3):
            handed(world, site, 0, (site + 1) % 3, 1)
            world.write((site + 1) % 3, 0, 1, 1)
            world.reset((site + 1) % 3, 1)
        for site in range(3):
            self.assertEqual(world.live(), [(0, 0), (1, 0), (2, 0)])
            world.reset(site, 0)
        self.assertEqual(world.live(), [])

    def test_an_object_that_refers_to_itself(self):
        world = World(1)
        world.make(0, 0, size=1)
        world.write(0, 0, 0, 0)
        self.assertEqual(world.live(), [(0, 0)])
        world.reset(0, 0)
        self.assertEqual(world.live(), [])

    def test_parcels_inboxes_arrivals_and_questions(self):
        world = World(2)
        world.make(0, 0, size=1)
        world.make(0, 1)
        world.write(0, 0, 0, 1)
        world.reset(0, 1)
        both = [(0, 0), (0, 1)]
        world.give(0, 0, 1)
        world.reset(0, 0)
        self.assertEqual(world.live(), both)
        carry(world, 0, 1)
        self.assertEqual(world.live(), both)
        self.assertEqual(world.arrivals(1), [(0, 0, (0, 0), None)])
        world.flush()
        self.assertEqual((world.inbox(1), world.live()), ([(0, 0)], both))
        world.take(1, 0)
        self.assertEqual(world.live(), both)
        world.fetch(1, 0, 5)
        world.reset(1, 0)
        self.assertEqual((world.questions(1), world.live()), ([(0, (0, 0), 5)], both))
        world.flush()
        self.assertEqual(world.live(), [])

    def test_a_gift_of_a_third_site(self):
        world = World(3)
        world.make(0, 0)
        handed(world, 0, 0, 1, 0)
        world.give(1, 0, 2)
        carry(world, 1, 2)
        world.reset(0, 0)
        world.reset(1, 0)
        carry(world, 2, 0)
        carry(world, 0, 2)
        carry(world, 2, 1)
        # The parcel is gone, the reference is in the inbox.
        self.assertEqual((world.parcels(1), world.inbox(2), world.live()), ([], [(0, 0)], [(0, 0)]))

    def test_each_object_once(self):
        world = World(2)
        world.make(0, 0, size=2)
        world.write(0, 0, 0, 0)
        world.write(0, 0, 1, 0)
        world.assign(0, 0, 1)
        handed(world, 0, 0, 1, 0)
        self.assertEqual(world.live(), [(0, 0)])

    def test_asking_changes_nothing(self):
        world = busy_world()
        before = shown(world, 3)
        self.assertEqual(world.live(), world.live())
        self.assertEqual(shown(world, 3), before)

    def test_a_chain_of_thousands_over_two_sites(self):
        world = World(2)
        count = 4000
        world.make(0, 0, size=1)
        world.assign(0, 0, 1)
        for number in range(count):
            site = (number + 1) % 2
            handed(world, 1 - site, 1, site, 2)
            world.make(site, 1, size=1)
            world.write(site, 1, 0, 2)
            world.reset(1 - site, 1)
            world.reset(site, 2)
        world.reset(0, 0)
        # Not assertEqual: it takes minutes to show how two long lists differ.
        self.assertEqual(len(world.live()), count + 1)
        self.assertTrue(world.live() == sorted(world.live()))
        world.calm_round()
        self.assertEqual(len(world.live()), count + 1)
        self.assertEqual([len(world.objects(site)) for site in (0, 1)], [count // 2 + 1, count // 2])


if __name__ == "__main__":
    unittest.main()
