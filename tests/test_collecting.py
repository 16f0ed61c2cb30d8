"""Points 8 and 13 to 15: what goes and what stays when a site collects, the letters, and when the site settles."""

import unittest

from farheap.world import World
from worlds import ages, carry, collected, handed, under_way, waved


def with_far(count):
    """Return a world in which site 0 has (1, 0), (1, 1) and so on in its variables, and none of them in fields."""
    world = World(2)
    for variable in range(count):
        world.make(1, variable)
        handed(world, 1, variable, 0, variable)
    return world


class NearObjectsTest(unittest.TestCase):

    def test_nothing_to_collect(self):
        world = World(2)
        world.collect(0)
        world.collect(1)
        self.assertEqual((world.objects(0), world.packets()), ([], []))

    def test_what_variables_lead_to_stays(self):
        world = World(1)
        for _ in range(6):
            world.make(0, 7, size=2)
        for variable in range(3):
            world.make(0, variable, size=2, mark=variable)
        world.write(0, 0, 1, 1)
        world.write(0, 1, 0, 2)
        world.write(0, 2, 1, 0)
        world.reset(0, 1)
        world.reset(0, 2)
        world.collect(0)
        self.assertEqual(world.objects(0), [5, 6, 7, 8])
        self.assertEqual([world.fields(0, number) for number in range(5, 9)],
                         [[None, None], [None, (0, 7)], [(0, 8), None], [None, (0, 6)]])
        world.read(0, 0, 1, 0)
        self.assertEqual(world.look(0, 0), 1)
        world.reset(0, 7)
        world.collect(0)
        self.assertEqual(world.objects(0), [6, 7, 8])

    def test_only_the_site_that_collects_loses_objects(self):
        world = World(2)
        for site in (0, 1):
            world.make(site, 0)
            world.reset(site, 0)
        world.collect(1)
        self.assertEqual((world.objects(0), world.objects(1)), ([0], []))

    def test_a_ring_in_one_site_goes(self):
        world = World(1)
        world.make(0, 0, size=1)
        world.make(0, 1, size=1)
        world.write(0, 0, 0, 1)
        world.write(0, 1, 0, 0)
        world.reset(0, 0)
        world.collect(0)
        self.assertEqual(world.objects(0), [0, 1])
        world.reset(0, 1)
        world.collect(0)
        self.assertEqual(world.objects(0), [])

    def test_a_parcel_and_an_inbox_keep_near_objects(self):
        world = World(2)
        world.make(0, 0)
        world.give(0, 0, 1)
        world.reset(0, 0)
        world.collect(0)
        self.assertEqual(world.objects(0), [0])
        world.flush()
        world.take(1, 0)
        world.give(1, 0, 0)
        world.reset(1, 0)
        world.flush()
        collected(world, 1)
        # Nothing but the inbox of site 0 has the reference now.
        self.assertEqual((world.inbox(0), world.entries(0)), ([(0, 0)], []))
        world.collect(0)
        self.assertEqual(world.objects(0), [0])
        world.take(0, 0)
        world.reset(0, 0)
        world.collect(0)
        self.assertEqual(world.objects(0), [])

    def test_an_entry_keeps_its_object_and_what_it_leads_to(self):
        world = World(2)
        world.make(0, 0, size=1)
        world.make(0, 1)
        world.make(0, 2)
        world.write(0, 0, 0, 1)
        handed(world, 0, 0, 1, 0)
        for variable in range(3):
            world.reset(0, variable)
        world.collect(0)
        self.assertEqual((world.objects(0), world.fields(0, 0)), ([0, 1], [(0, 1)]))
        collected(world, 1, 0)
        self.assertEqual((world.objects(0), world.entries(0)), ([0, 1], [(1, 0, 0)]))
        world.reset(1, 0)
        collected(world, 1)
        world.collect(0)
        self.assertEqual((world.objects(0), world.entries(0)), ([], []))

    def test_a_chain_and_a_ring_of_thousands(self):
        count = 4000
        world = World(1)
        world.make(0, 0, size=1)
        world.assign(0, 0, 1)
        for _ in range(count - 1):
            world.make(0, 2, size=1)
            world.write(0, 2, 0, 1)
            world.assign(0, 2, 1)
        world.reset(0, 0)
        world.reset(0, 2)
        world.collect(0)
        # Not assertEqual: it takes minutes to show how two long lists differ.
        self.assertTrue(world.objects(0) == list(range(count)))
        self.assertTrue(world.live() == [(0, number) for number in range(count)])
        world.assign(0, 1, 2)
        world.make(0, 0, size=1)
        world.write(0, 0, 0, 2)
        world.reset(0, 1)
        world.reset(0, 2)
        world.collect(0)
        self.assertTrue(world.objects(0) == list(range(count + 1)))
        world.reset(0, 0)
        world.collect(0)
        self.assertEqual(world.objects(0), [])


class HoldingsTest(unittest.TestCase):

    def test_what_variables_have_is_told_and_the_others_are_left_in_the_order_of_the_references(self):
        world = World(4)
        for owner, variables in ((3, (0, 1)), (0, (2, 3, 4)), (2, (5, 6))):
            for number, variable in enumerate(variables):
                world.make(owner, number)
                handed(world, owner, number, 1, variable)
        # Of (0, 1), (2, 0) and (3, 1) nothing is left.
        for variable in (3, 5, 1):
            world.reset(1, variable)
        world.collect(1)
        self.assertEqual(world.holdings(1), [((0, 0), 0), ((0, 2), 0), ((2, 1), 0), ((3, 0), 0)])
        self.assertEqual(under_way(world, 1), [
            (0, ("stamp", 0, 0)), (0, ("leave", 1)), (0, ("stamp", 2, 0)), (2, ("leave", 0)), (2, ("stamp", 1, 0)),
            (3, ("stamp", 0, 0)), (3, ("leave", 1))])

    def test_the_order_is_that_of_the_references_not_that_of_their_coming(self):
        world = World(2)
        for variable in range(3):
            world.make(1, variable)
        for variable in (2, 0, 1):
            handed(world, 1, variable, 0, variable)
        world.reset(0, 1)
        world.collect(0)
        self.assertEqual(under_way(world, 0), [(1, ("stamp", 0, 0)), (1, ("leave", 1)), (1, ("stamp", 2, 0))])

    def test_a_field_of_a_kept_object_keeps_a_holding(self):
        world = with_far(2)
        world.make(0, 4, size=2)
        world.make(0, 5, size=1)
        world.write(0, 4, 1, 5)
        world.write(0, 5, 0, 0)
        world.make(0, 6, size=1)
        world.write(0, 6, 0, 1)
        for variable in (0, 1, 5, 6):
            world.reset(0, variable)
        world.collect(0)
        self.assertEqual((world.objects(0), world.holdings(0)), ([0, 1], [((1, 0), 0)]))
        self.assertEqual(under_way(world, 0), [(1, ("stamp", 0, 0)), (1, ("leave", 1))])
        self.assertEqual(world.fields(0, 1), [(1, 0)])

    def test_an_inbox_keeps_a_holding(self):
        world = with_far(1)
        world.give(1, 0, 0)
        world.flush()
        world.reset(0, 0)
        world.collect(0)
        self.assertEqual((world.inbox(0), world.holdings(0)), ([(1, 0)], [((1, 0), 0)]))
        world.take(0, 3)
        world.reset(0, 3)
        world.collect(0)
        self.assertEqual(world.holdings(0), [])

    def test_a_parcel_keeps_a_holding(self):
        world = World(3)
        world.make(1, 0)
        handed(world, 1, 0, 0, 0)
        world.give(0, 0, 2)
        world.reset(0, 0)
        world.collect(0)
        self.assertEqual((world.parcels(0), world.holdings(0)), ([(0, 2, (1, 0))], [((1, 0), 0)]))
        world.flush()
        world.collect(0)
        self.assertEqual((world.parcels(0), world.holdings(0)), ([], []))

    def test_a_question_keeps_a_holding(self):
        world = with_far(1)
        world.fetch(0, 0, 0)
        world.reset(0, 0)
        world.collect(0)
        self.assertEqual((world.questions(0), world.holdings(0)), ([(0, (1, 0), 0)], [((1, 0), 0)]))
        world.flush()
        world.collect(0)
        self.assertEqual((world.questions(0), world.holdings(0)), ([], []))

    def test_an_arrival_keeps_a_holding_and_is_none(self):
        world = with_far(1)
        world.make(1, 1)
        world.give(1, 0, 0)
        world.give(1, 1, 0)
        carry(world, 1, 0)
        world.reset(0, 0)
        world.collect(0)
        self.assertEqual([arrival[2] for arrival in world.arrivals(0)], [(1, 0), (1, 1)])
        self.assertEqual(world.holdings(0), [((1, 0), 0)])
        self.assertEqual(under_way(world, 0),
                         [(1, ("enter", 0, 1)), (1, ("enter", 1, 1)), (1, ("stamp", 0, 0))])

    def test_what_was_left_can_be_given_again(self):
        world = with_far(1)
        world.reset(0, 0)
        collected(world, 0)
        self.assertEqual((world.holdings(0), world.entries(1)), ([], []))
        handed(world, 1, 0, 0, 0)
        self.assertEqual((world.holdings(0), world.entries(1)), ([((1, 0), None)], [(0, 0, None)]))


class StampsTest(unittest.TestCase):

    def test_a_stamp_is_told_only_when_it_grows(self):
        world = with_far(1)
        world.collect(0)
        self.assertEqual(under_way(world, 0), [(1, ("stamp", 0, 0))])
        world.collect(0)
        self.assertEqual(under_way(world, 0), [(1, ("stamp", 0, 0))])
        world.flush()
        self.assertEqual(world.entries(1), [(0, 0, 0)])
        collected(world, 0)
        self.assertEqual(world.holdings(0), [((1, 0), 0)])
        waved(world)
        self.assertEqual((world.clock(0), world.holdings(0)), (1, [((1, 0), 0)]))
        world.collect(0)
        self.assertEqual(world.holdings(0), [((1, 0), 1)])
        self.assertEqual(under_way(world, 0), [(1, ("stamp", 0, 1))])
        self.assertEqual(world.entries(1), [(0, 0, 0)])
        world.flush()
        self.assertEqual(world.entries(1), [(0, 0, 1)])

    def chain(self):
        """Return a world in which site 2 holds (1, 0), whose field refers to (0, 0), with stamps that were told."""
        world = World(3)
        world.make(0, 0)
        world.make(1, 0, size=1)
        handed(world, 0, 0, 1, 1)
        world.write(1, 0, 0, 1)
        handed(world, 1, 0, 2, 0)
        world.reset(1, 0)
        world.reset(1, 1)
        collected(world, 2, 1)
        self.assertEqual((world.entries(1), world.entries(0)), ([(2, 0, 0)], [(1, 0, 0)]))
        return world

    def test_the_value_of_an_entry_is_its_stamp(self):
        world = self.chain()
        waved(world, 2)
        world.collect(1)
        self.assertEqual((world.holdings(1), under_way(world, 1)), ([((0, 0), 0)], []))
        collected(world, 2)
        self.assertEqual(world.entries(1), [(2, 0, 2)])
        waved(world)
        world.collect(1)
        self.assertEqual((world.holdings(1), under_way(world, 1)), ([((0, 0), 2)], [(0, ("stamp", 0, 2))]))

    def test_the_value_of_a_fresh_entry_is_the_clock(self):
        world = self.chain()
        world.give(2, 0, 1)
        world.flush()
        world.take(1, 0)
        world.give(1, 0, 2)
        world.flush()
        world.reset(1, 0)
        waved(world, 2)
        self.assertEqual(world.entries(1), [(2, 0, None)])
        world.collect(1)
        self.assertEqual(under_way(world, 1), [(0, ("stamp", 0, 2))])
        self.assertEqual(world.entries(1), [(2, 0, None)])

    def test_the_greatest_of_several_values(self):
        world = self.chain()
        waved(world, 2)
        # A root beside the entry: the clock is greater than the stamp.
        world.give(2, 0, 1)
        world.flush()
        world.collect(1)
        self.assertEqual((world.inbox(1), under_way(world, 1)), ([(1, 0)], [(0, ("stamp", 0, 2))]))
        world.flush()
        world.take(1, 0)
        world.reset(1, 0)
        waved(world, 2)
        world.collect(1)
        # What was told is greater than the stamp of the entry.
        self.assertEqual((world.entries(1), world.holdings(1)), ([(2, 0, 0)], [((0, 0), 2)]))
        self.assertEqual(under_way(world, 1), [])

    def test_the_settled_value_where_nothing_was_told(self):
        world = self.chain()
        waved(world, 3)
        collected(world, 1)
        self.assertEqual((world.settled(1), world.entries(1)), (3, [(2, 0, 0)]))
        waved(world)
        world.give(0, 0, 1)
        world.flush()
        self.assertEqual(world.holdings(1), [((0, 0), None)])
        world.take(1, 5)
        world.reset(1, 5)
        world.collect(1)
        self.assertEqual((world.clock(1), world.holdings(1)), (4, [((0, 0), 3)]))
        self.assertEqual(under_way(world, 1), [(0, ("stamp", 0, 3))])

    def test_the_settled_value_does_not_matter_where_something_was_told(self):
        world = self.chain()
        waved(world, 3)
        collected(world, 1)
        world.collect(1)
        self.assertEqual((world.settled(1), world.holdings(1), under_way(world, 1)), (3, [((0, 0), 0)], []))

    def test_a_settled_value_that_is_smaller_does_not_matter(self):
        world = with_far(1)
        waved(world, 2)
        self.assertEqual(world.settled(0), 0)
        world.collect(0)
        self.assertEqual(under_way(world, 0), [(1, ("stamp", 0, 2))])


class BoundTest(unittest.TestCase):

    def rings(self):
        """Return a world with four rings over both sites, that lost their roots one wave after the other."""
        world = World(2)
        for number in range(4):
            for site in (0, 1):
                world.make(site, number, size=1)
            for site in (0, 1):
                handed(world, site, number, 1 - site, 7)
                world.write(1 - site, number, 0, 7)
                world.reset(1 - site, 7)
        for turn in range(4):
            for site in (0, 1):
                world.collect(site)
            world.flush()
            for site in (0, 1):
                world.reset(site, turn)
            waved(world)
        return world

    def test_entries_below_at_and_above_the_bound(self):
        world = self.rings()
        self.assertEqual((world.bound(0), world.bound(1)), (1, 0))
        self.assertEqual(world.entries(0), [(1, 0, 0), (1, 1, 1), (1, 2, 2), (1, 3, 3)])
        world.make(0, 0)
        world.give(0, 0, 1)
        world.flush()
        world.collect(0)
        self.assertEqual(world.entries(0), [(1, 1, 1), (1, 2, 2), (1, 3, 3), (1, 4, None)])
        self.assertEqual((world.objects(0), world.holdings(0)),
                         ([1, 2, 3, 4], [((1, 1), 1), ((1, 2), 2), ((1, 3), 3)]))
        self.assertEqual(under_way(world, 0), [(1, ("leave", 0))])

    def test_the_bound_is_that_of_the_site(self):
        world = self.rings()
        world.collect(1)
        self.assertEqual(world.entries(1), [(0, 0, 0), (0, 1, 1), (0, 2, 2), (0, 3, 3)])
        self.assertEqual((world.objects(1), under_way(world, 1)), ([0, 1, 2, 3], []))
        waved(world)
        self.assertEqual(world.bound(1), 1)
        # Not before the site collects.
        self.assertEqual(world.entries(1), [(0, 0, 0), (0, 1, 1), (0, 2, 2), (0, 3, 3)])
        world.collect(1)
        self.assertEqual(world.entries(1), [(0, 1, 1), (0, 2, 2), (0, 3, 3)])
        self.assertEqual((world.objects(1), under_way(world, 1)), ([1, 2, 3], [(0, ("leave", 0))]))

    def test_an_entry_that_goes_lowers_nothing(self):
        world = self.rings()
        world.collect(0)
        self.assertEqual(ages(world, 0), (4, 1, 2, 2, 4))
        world.flush()
        self.assertEqual(ages(world, 0), (4, 1, 4, 2, None))

    def test_a_fresh_entry_keeps_its_object_whatever_the_bound_is(self):
        world = World(2)
        for _ in range(4):
            waved(world)
            collected(world, 0, 1)
        self.assertEqual(world.bound(1), 1)
        world.make(1, 0)
        handed(world, 1, 0, 0, 0)
        world.reset(1, 0)
        world.collect(1)
        self.assertEqual((world.entries(1), world.objects(1)), ([(0, 0, None)], [0]))

    def test_an_object_may_lose_its_entry_and_stay(self):
        # The ring over both sites refers to (0, 1), too, which a variable of site 0 has.
        world = World(2)
        world.make(0, 0, size=1)
        world.make(1, 0, size=2)
        world.make(0, 1, mark=5)
        handed(world, 1, 0, 0, 7)
        world.write(0, 0, 0, 7)
        for field in (0, 1):
            handed(world, 0, field, 1, 7)
            world.write(1, 0, field, 7)
        for site, variable in ((0, 0), (0, 7), (1, 0), (1, 7)):
            world.reset(site, variable)
        for _ in range(20):
            world.collect(0)
            if world.objects(0) != [0, 1]:
                break
            world.flush()
            collected(world, 1)
            waved(world)
        self.assertEqual((world.objects(0), world.entries(0), world.look(0, 1)), ([1], [], 5))
        self.assertEqual(world.holdings(1), [((0, 0), 0), ((0, 1), 0)])


class SettleTest(unittest.TestCase):

    def test_at_once_if_no_letter_is_under_way(self):
        world = World(2)
        waved(world)
        world.collect(0)
        self.assertEqual(ages(world, 0), (1, 0, 1, 0, None))
        world.collect(0)
        self.assertEqual(ages(world, 0), (1, 0, 1, 0, None))

    def test_with_the_acknowledgement_of_the_last_letter(self):
        world = with_far(2)
        waved(world)
        world.collect(0)
        self.assertEqual(ages(world, 0), (1, 0, 0, 0, 1))
        world.send(0)
        self.assertEqual(len(world.packets()), 2)
        world.deliver(0)
        world.deliver(0)
        self.assertEqual(ages(world, 0), (1, 0, 0, 0, 1))
        world.deliver(0)
        self.assertEqual(ages(world, 0), (1, 0, 0, 0, 1))
        world.deliver(0)
        self.assertEqual(ages(world, 0), (1, 0, 1, 0, None))

    def test_a_letter_that_was_accepted_but_not_acknowledged_is_waited_for(self):
        world = with_far(1)
        waved(world)
        world.collect(0)
        carry(world, 0, 1, answered=False)
        self.assertEqual((world.entries(1), world.pending(0)), ([(0, 0, 1)], 1))
        carry(world, 0, 1)
        self.assertEqual((world.pending(0), world.settled(0)), (None, 1))

    def test_letters_that_were_put_before_count_and_later_ones_do_not(self):
        world = with_far(1)
        waved(world)
        world.give(0, 0, 1)
        world.collect(0)
        world.make(0, 1)
        world.give(0, 1, 1)
        world.send(0)
        self.assertEqual([packet[4][0] for packet in world.packets()], ["give", "stamp", "give"])
        world.lose(2)
        world.deliver(0)
        world.deliver(0)
        world.deliver(0)
        self.assertEqual(ages(world, 0), (1, 0, 0, 0, 1))
        world.deliver(0)
        self.assertEqual(ages(world, 0), (1, 0, 1, 0, None))
        self.assertEqual(under_way(world, 0), [(1, ("give", 1, (0, 0), None))])

    def test_a_letter_from_before_is_waited_for_alone(self):
        world = World(2)
        waved(world)
        world.make(0, 0)
        world.give(0, 0, 1)
        world.collect(0)
        self.assertEqual(ages(world, 0), (1, 0, 0, 0, 1))
        carry(world, 0, 1)
        self.assertEqual(ages(world, 0), (1, 0, 1, 0, None))

    def test_letters_to_every_site_count(self):
        world = World(4)
        for owner in (1, 3):
            world.make(owner, 0)
            handed(world, owner, 0, 0, owner)
        waved(world)
        world.collect(0)
        carry(world, 0, 3)
        self.assertEqual(ages(world, 0), (1, 0, 0, 0, 1))
        carry(world, 0, 2)
        self.assertEqual(ages(world, 0), (1, 0, 0, 0, 1))
        carry(world, 0, 1)
        self.assertEqual(ages(world, 0), (1, 0, 1, 0, None))

    def test_acknowledgements_for_other_sites_do_not_count(self):
        world = with_far(1)
        waved(world)
        world.collect(0)
        world.give(1, 0, 0)
        carry(world, 1, 0)
        self.assertEqual(world.pending(0), 1)

    def test_a_new_collection_takes_the_place_of_one_that_did_not_settle(self):
        world = with_far(1)
        waved(world)
        world.collect(0)
        self.assertEqual(ages(world, 0), (1, 0, 0, 0, 1))
        world.make(0, 1)
        world.give(0, 1, 1)
        world.collect(0)
        self.assertEqual(ages(world, 0), (1, 0, 0, 0, 1))
        # The stamp alone would have done for the first collection; the gift is waited for now.
        world.send(0)
        world.lose(1)
        world.deliver(0)
        world.deliver(0)
        self.assertEqual(ages(world, 0), (1, 0, 0, 0, 1))
        carry(world, 0, 1)
        self.assertEqual(ages(world, 0), (1, 0, 1, 0, None))

    def test_a_new_collection_has_the_clock_of_its_time(self):
        world = with_far(1)
        waved(world)
        world.collect(0)
        world.begin_wave()
        self.assertEqual(ages(world, 0), (2, 0, 0, 0, 1))
        world.collect(0)
        self.assertEqual(ages(world, 0), (2, 0, 0, 0, 2))
        world.flush()
        self.assertEqual(ages(world, 0), (2, 0, 2, 0, None))

    def test_the_pending_value_is_the_clock_of_the_collection(self):
        world = with_far(1)
        waved(world)
        world.collect(0)
        world.begin_wave()
        world.send(0)
        world.deliver(0)
        world.deliver(0)
        world.deliver(0)
        self.assertEqual(ages(world, 0), (2, 0, 1, 0, None))

    def test_a_world_with_one_site(self):
        world = World(1)
        world.begin_wave()
        self.assertEqual(ages(world, 0), (1, 0, 0, 0, None))
        world.collect(0)
        self.assertEqual(ages(world, 0), (1, 0, 1, 0, None))


if __name__ == "__main__":
    unittest.main()
