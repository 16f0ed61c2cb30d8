"""Points 7, 10, 11 and 12: give, take and fetch, and each kind of letter, step by step."""

import unittest

from farheap.sites import Site
from farheap.world import World
from worlds import ages, carry, collected, handed, under_way, waved


class LettersTest(unittest.TestCase):

    def check(self, world, site, **lists):
        """Check the named lists of the site; those of inbox, parcels, questions and arrivals that are not named
        are empty."""
        for name in ("inbox", "parcels", "questions", "arrivals"):
            lists.setdefault(name, [])
        for name in lists:
            self.assertEqual(getattr(world, name)(site), lists[name], name)


class GiveTest(LettersTest):

    def test_from_the_owner_to_another_site(self):
        world = World(2)
        world.make(0, 4, mark=6)
        world.give(0, 4, 1)
        self.assertEqual(world.packets(), [])
        self.check(world, 0, parcels=[(0, 1, (0, 0))], entries=[])
        self.check(world, 1, holdings=[])
        self.assertEqual(carry(world, 0, 1), [("give", 0, (0, 0), None)])
        self.check(world, 0, parcels=[(0, 1, (0, 0))], entries=[])
        self.check(world, 1, arrivals=[(0, 0, (0, 0), None)], holdings=[])
        self.assertEqual(carry(world, 1, 0), [("enter", 0, 0)])
        self.check(world, 0, parcels=[(0, 1, (0, 0))], entries=[(1, 0, None)])
        self.check(world, 1, arrivals=[(0, 0, (0, 0), None)], holdings=[])
        self.assertEqual(carry(world, 0, 1), [("entered", 0)])
        self.check(world, 0, parcels=[(0, 1, (0, 0))], entries=[(1, 0, None)])
        self.check(world, 1, inbox=[(0, 0)], holdings=[((0, 0), None)])
        self.assertEqual(carry(world, 1, 0), [("got", 0)])
        self.check(world, 0, entries=[(1, 0, None)], holdings=[])
        self.check(world, 1, inbox=[(0, 0)], holdings=[((0, 0), None)], variables=[None] * 8, entries=[])
        self.assertEqual((under_way(world, 0), under_way(world, 1)), ([], []))
        world.take(1, 3)
        self.check(world, 1, holdings=[((0, 0), None)], variables=[None] * 3 + [(0, 0)] + [None] * 4)
        self.check(world, 0, variables=[None] * 4 + [(0, 0)] + [None] * 3)

    def test_to_a_third_site(self):
        world = World(3)
        world.make(0, 0)
        handed(world, 0, 0, 1, 0)
        world.give(1, 0, 2)
        self.check(world, 1, parcels=[(0, 2, (0, 0))])
        self.assertEqual(carry(world, 1, 2), [("give", 0, (0, 0), None)])
        self.check(world, 2, arrivals=[(1, 0, (0, 0), None)], holdings=[])
        self.assertEqual(carry(world, 2, 0), [("enter", 0, 1)])
        self.check(world, 0, entries=[(1, 0, None), (2, 0, None)])
        self.assertEqual(carry(world, 0, 2), [("entered", 0)])
        self.check(world, 2, inbox=[(0, 0)], holdings=[((0, 0), None)])
        self.check(world, 1, parcels=[(0, 2, (0, 0))], holdings=[((0, 0), None)])
        self.assertEqual(under_way(world, 2), [(1, ("got", 0))])
        carry(world, 2, 1)
        self.check(world, 1, holdings=[((0, 0), None)])
        self.check(world, 0, entries=[(1, 0, None), (2, 0, None)])

    def test_back_to_the_owner(self):
        world = World(2)
        world.make(0, 0)
        handed(world, 0, 0, 1, 5)
        world.give(1, 5, 0)
        self.assertEqual(carry(world, 1, 0), [("give", 0, (0, 0), None)])
        self.check(world, 0, inbox=[(0, 0)], entries=[(1, 0, None)], holdings=[])
        self.check(world, 1, parcels=[(0, 0, (0, 0))])
        self.assertEqual(carry(world, 0, 1), [("got", 0)])
        self.check(world, 1, holdings=[((0, 0), None)])
        world.take(0, 2)
        self.check(world, 0, variables=[(0, 0), None, (0, 0)] + [None] * 5)

    def test_before_the_first_gift_was_entered(self):
        world = World(2)
        world.make(0, 0)
        world.give(0, 0, 1)
        world.give(0, 0, 1)
        self.check(world, 0, parcels=[(0, 1, (0, 0)), (1, 1, (0, 0))])
        carry(world, 0, 1)
        self.check(world, 1, arrivals=[(0, 0, (0, 0), None), (0, 1, (0, 0), None)], holdings=[])
        self.assertEqual(carry(world, 1, 0), [("enter", 0, 0), ("enter", 0, 0)])
        self.check(world, 0, parcels=[(0, 1, (0, 0)), (1, 1, (0, 0))], entries=[(1, 0, None)])
        self.assertEqual(carry(world, 0, 1), [("entered", 0), ("entered", 0)])
        self.check(world, 1, inbox=[(0, 0), (0, 0)], holdings=[((0, 0), None)])
        self.assertEqual(carry(world, 1, 0), [("got", 0), ("got", 1)])
        self.check(world, 0, entries=[(1, 0, None)])

    def test_a_gift_of_what_the_site_holds_takes_the_told_stamp_away(self):
        world = World(2)
        world.make(0, 0)
        handed(world, 0, 0, 1, 0)
        waved(world)
        collected(world, 1)
        self.check(world, 1, holdings=[((0, 0), 1)])
        self.check(world, 0, entries=[(1, 0, 1)])
        world.give(0, 0, 1)
        carry(world, 0, 1)
        self.check(world, 1, arrivals=[(0, 1, (0, 0), None)], holdings=[((0, 0), None)])
        self.check(world, 0, parcels=[(1, 1, (0, 0))], entries=[(1, 0, 1)])
        carry(world, 1, 0)
        # The entry was there already: it is fresh again.
        self.check(world, 0, parcels=[(1, 1, (0, 0))], entries=[(1, 0, None)])
        self.assertEqual(under_way(world, 0), [(1, ("entered", 0))])
        world.collect(1)
        self.check(world, 1, arrivals=[(0, 1, (0, 0), None)], holdings=[((0, 0), 1)])
        carry(world, 0, 1)
        # The holding that is there is kept as it is.
        self.check(world, 1, inbox=[(0, 0)], holdings=[((0, 0), 1)])
        world.flush()
        self.check(world, 0, entries=[(1, 0, 1)])

    def test_a_gift_of_another_reference_takes_no_told_stamp_away(self):
        world = World(2)
        world.make(0, 0)
        handed(world, 0, 0, 1, 0)
        collected(world, 1)
        world.make(0, 1)
        world.give(0, 1, 1)
        carry(world, 0, 1)
        self.check(world, 1, arrivals=[(0, 1, (0, 1), None)], holdings=[((0, 0), 0)])

    def test_the_first_arrival_with_the_reference_is_the_one_that_is_entered(self):
        world = World(4)
        for owner in (0, 1):
            world.make(owner, 0)
            handed(world, owner, 0, 2, owner)
        # To site 3: (1, 0) from 2, (0, 0) from 2, (0, 0) from 0, (1, 0) from 1.
        world.give(2, 1, 3)
        world.give(2, 0, 3)
        carry(world, 2, 3)
        world.give(0, 0, 3)
        carry(world, 0, 3)
        world.give(1, 0, 3)
        carry(world, 1, 3)
        arrivals = [(2, 0, (1, 0), None), (2, 1, (0, 0), None), (0, 1, (0, 0), None), (1, 1, (1, 0), None)]
        self.check(world, 3, arrivals=arrivals)
        self.assertEqual(carry(world, 3, 0), [("enter", 0, 2), ("enter", 0, 0)])
        self.assertEqual(carry(world, 3, 1), [("enter", 0, 2), ("enter", 0, 1)])
        # One "entered" of the two is brought.
        world.send(0)
        world.deliver(0)
        self.check(world, 3, arrivals=[arrivals[0], arrivals[2], arrivals[3]], inbox=[(0, 0)],
                   holdings=[((0, 0), None)])
        while world.packets():
            world.lose(0)
        self.assertEqual(under_way(world, 3), [(2, ("got", 1))])
        carry(world, 1, 3)
        self.check(world, 3, arrivals=[arrivals[2]], inbox=[(0, 0), (1, 0), (1, 0)],
                   holdings=[((0, 0), None), ((1, 0), None)])
        self.assertEqual(under_way(world, 3), [(1, ("got", 1)), (2, ("got", 1)), (2, ("got", 0))])
        world.flush()
        self.check(world, 3, inbox=[(0, 0), (1, 0), (1, 0), (0, 0)])
        for site in range(3):
            self.check(world, site)

    def test_parcels_are_numbered_for_all_other_sites_together(self):
        world = World(3)
        world.make(0, 0)
        world.make(0, 1)
        for variable, other in ((0, 1), (1, 2), (1, 1)):
            world.give(0, variable, other)
        parcels = [(0, 1, (0, 0)), (1, 2, (0, 1)), (2, 1, (0, 1))]
        self.check(world, 0, parcels=parcels)
        for source, target in ((0, 2), (2, 0), (0, 2), (2, 0)):
            carry(world, source, target)
        self.check(world, 0, parcels=[parcels[0], parcels[2]])
        world.flush()
        self.check(world, 0)
        world.give(0, 0, 2)
        self.check(world, 0, parcels=[(3, 2, (0, 0))])

    def test_a_parcel_keeps_what_was_given(self):
        world = World(2)
        world.make(0, 0)
        world.give(0, 0, 1)
        world.make(0, 0)
        self.check(world, 0, parcels=[(0, 1, (0, 0))])
        world.flush()
        self.check(world, 1, inbox=[(0, 0)])

    def test_an_enter_for_a_site_that_left(self):
        world = World(2)
        world.make(0, 0)
        world.give(0, 0, 1)
        world.flush()
        world.take(1, 0)
        world.reset(1, 0)
        world.give(0, 0, 1)
        carry(world, 0, 1)
        # The arrival keeps the holding.
        world.collect(1)
        self.check(world, 1, arrivals=[(0, 1, (0, 0), None)], holdings=[((0, 0), 0)])
        world.flush()
        self.check(world, 1, inbox=[(0, 0)], holdings=[((0, 0), 0)])
        world.take(1, 0)
        world.reset(1, 0)
        world.collect(1)
        self.check(world, 1, holdings=[])
        world.give(0, 0, 1)
        carry(world, 0, 1)
        self.assertEqual(carry(world, 1, 0), [("leave", 0), ("enter", 0, 0)])
        self.check(world, 0, parcels=[(2, 1, (0, 0))], entries=[(1, 0, None)])
        world.flush()
        self.check(world, 1, inbox=[(0, 0)], holdings=[((0, 0), None)])


class TakeTest(LettersTest):

    def test_the_earliest_comes_first(self):
        world = World(3)
        for site, variable in ((0, 0), (0, 1), (1, 0)):
            world.make(site, variable)
            world.give(site, variable, 2)
            world.flush()
        self.check(world, 2, inbox=[(0, 0), (0, 1), (1, 0)])
        world.take(2, 6)
        self.check(world, 2, inbox=[(0, 1), (1, 0)], variables=[None] * 6 + [(0, 0), None])
        world.take(2, 6)
        world.take(2, 0)
        self.check(world, 2, variables=[(1, 0)] + [None] * 5 + [(0, 1), None])

    def test_a_reference_may_be_there_several_times(self):
        world = World(2)
        world.make(0, 0)
        for _ in range(3):
            world.give(0, 0, 1)
        world.flush()
        world.take(1, 0)
        self.check(world, 1, inbox=[(0, 0), (0, 0)], variables=[(0, 0)] + [None] * 7)

    def test_taking_changes_no_other_site(self):
        world = World(2)
        world.make(0, 0)
        world.give(0, 0, 1)
        world.flush()
        world.take(1, 0)
        self.check(world, 0, variables=[(0, 0)] + [None] * 7, inbox=[])
        self.assertEqual((under_way(world, 0), under_way(world, 1)), ([], []))


class FetchTest(LettersTest):

    def setUp(self):
        # Object (0, 1) refers to (0, 0), to (1, 0), to (2, 0), and to nothing; sites 1 and 2 have it in variable 0.
        self.world = World(3)
        for site in (1, 2):
            self.world.make(site, 1)
            handed(self.world, site, 1, 0, site)
        self.world.make(0, 0)
        self.world.make(0, 3, size=4)
        for field in range(3):
            self.world.write(0, 3, field, field)
        for site in (1, 2):
            handed(self.world, 0, 3, site, 0)
        self.assertEqual(self.world.fields(0, 1), [(0, 0), (1, 0), (2, 0), None])

    def test_a_field_that_refers_to_an_object_of_the_owner(self):
        world = self.world
        world.fetch(1, 0, 0)
        self.check(world, 1, questions=[(0, (0, 1), 0)])
        self.assertEqual(carry(world, 1, 0), [("fetch", 0, 1, 0)])
        self.check(world, 0, parcels=[(2, 1, (0, 0))])
        self.check(world, 1, questions=[(0, (0, 1), 0)])
        self.assertEqual(carry(world, 0, 1), [("give", 2, (0, 0), 0)])
        self.check(world, 1, questions=[(0, (0, 1), 0)], arrivals=[(0, 2, (0, 0), 0)])
        self.assertEqual(carry(world, 1, 0), [("enter", 0, 0)])
        self.assertEqual(carry(world, 0, 1), [("entered", 0)])
        self.check(world, 1, inbox=[(0, 0)], holdings=[((0, 0), None), ((0, 1), None)])
        self.check(world, 0, parcels=[(2, 1, (0, 0))])
        self.assertEqual(carry(world, 1, 0), [("got", 2)])
        self.check(world, 0, entries=[(1, 0, None), (1, 1, None), (2, 1, None)])
        self.assertEqual(world.fields(0, 1), [(0, 0), (1, 0), (2, 0), None])

    def test_a_field_that_refers_to_an_object_of_the_asker(self):
        world = self.world
        world.fetch(1, 0, 1)
        carry(world, 1, 0)
        self.check(world, 0, parcels=[(2, 1, (1, 0))])
        self.assertEqual(carry(world, 0, 1), [("give", 2, (1, 0), 0)])
        self.check(world, 1, inbox=[(1, 0)], entries=[(0, 0, None)])
        self.assertEqual(carry(world, 1, 0), [("got", 2)])
        self.check(world, 0)

    def test_a_field_that_refers_to_an_object_of_a_third_site(self):
        world = self.world
        world.fetch(1, 0, 2)
        carry(world, 1, 0)
        carry(world, 0, 1)
        self.check(world, 1, questions=[(0, (0, 1), 2)], arrivals=[(0, 2, (2, 0), 0)])
        self.assertEqual(carry(world, 1, 2), [("enter", 0, 0)])
        self.check(world, 2, entries=[(0, 0, None), (1, 0, None)])
        self.assertEqual(carry(world, 2, 1), [("entered", 0)])
        self.check(world, 1, inbox=[(2, 0)], holdings=[((0, 1), None), ((2, 0), None)])
        self.assertEqual(under_way(world, 1), [(0, ("got", 2))])
        world.flush()
        self.check(world, 0)

    def test_a_field_that_is_none_or_does_not_exist(self):
        world = self.world
        for question, field in enumerate((3, 4, 5, 10 ** 30)):
            world.fetch(2, 0, field)
            self.check(world, 2, questions=[(question, (0, 1), field)])
            self.assertEqual(carry(world, 2, 0), [("fetch", question, 1, field)])
            self.check(world, 0)
            self.check(world, 2, questions=[(question, (0, 1), field)])
            self.assertEqual(carry(world, 0, 2), [("none", question)])
            self.check(world, 2, holdings=[((0, 1), None)])
            self.assertEqual((under_way(world, 0), under_way(world, 2)), ([], []))

    def test_an_object_without_fields(self):
        world = World(2)
        world.make(0, 0)
        handed(world, 0, 0, 1, 0)
        world.fetch(1, 0, 0)
        carry(world, 1, 0)
        self.assertEqual(under_way(world, 0), [(1, ("none", 0))])

    def test_the_field_is_read_when_the_letter_is_accepted(self):
        world = self.world
        world.fetch(1, 0, 3)
        world.write(0, 3, 3, 0)
        carry(world, 1, 0)
        world.write(0, 3, 3, 3)
        self.check(world, 0, parcels=[(2, 1, (0, 0))])
        world.flush()
        self.check(world, 1, inbox=[(0, 0)])

    def test_several_questions_at_once(self):
        world = self.world
        for field in (0, 3, 1, 0):
            world.fetch(1, 0, field)
        world.fetch(2, 0, 2)
        questions = [(0, (0, 1), 0), (1, (0, 1), 3), (2, (0, 1), 1), (3, (0, 1), 0)]
        self.check(world, 1, questions=questions)
        self.check(world, 2, questions=[(0, (0, 1), 2)])
        self.assertEqual(carry(world, 1, 0), [("fetch", number, 1, field) for number, _, field in questions])
        self.check(world, 0, parcels=[(2, 1, (0, 0)), (3, 1, (1, 0)), (4, 1, (0, 0))])
        self.assertEqual(carry(world, 0, 1), [("give", 2, (0, 0), 0), ("none", 1), ("give", 3, (1, 0), 2),
                                              ("give", 4, (0, 0), 3)])
        # The near one is received at once, the far ones wait.
        self.check(world, 1, questions=[questions[0], questions[3]], inbox=[(1, 0)],
                   arrivals=[(0, 2, (0, 0), 0), (0, 4, (0, 0), 3)])
        self.assertEqual(carry(world, 1, 0), [("enter", 0, 0), ("got", 3), ("enter", 0, 0)])
        self.check(world, 0, parcels=[(2, 1, (0, 0)), (4, 1, (0, 0))])
        carry(world, 0, 1)
        self.check(world, 1, inbox=[(1, 0), (0, 0), (0, 0)])
        world.flush()
        self.check(world, 2, inbox=[(2, 0)])
        for site in range(3):
            self.check(world, site, inbox=world.inbox(site))
        world.fetch(1, 0, 0)
        self.check(world, 1, questions=[(4, (0, 1), 0)], inbox=world.inbox(1))

    def test_a_question_keeps_the_object(self):
        world = self.world
        world.reset(0, 3)
        world.reset(2, 0)
        world.fetch(1, 0, 0)
        world.reset(1, 0)
        for site in range(3):
            world.collect(site)
        carry(world, 2, 0)
        self.check(world, 0, entries=[(1, 1, None)])
        self.check(world, 1, questions=[(0, (0, 1), 0)], holdings=[((0, 1), 0)])
        world.collect(0)
        self.assertEqual(world.objects(0), [0, 1])
        world.flush()
        self.check(world, 1, inbox=[(0, 0)])


class LowerTest(LettersTest):
    """Point 9, by each letter that lowers a site."""

    def setUp(self):
        # Site 1 holds (0, 0), which refers to (0, 1); the stamp of its entry is 1, while site 0 settled at 3.
        self.world = World(3)
        self.world.make(0, 0, size=2)
        self.world.make(0, 1)
        self.world.write(0, 0, 0, 1)
        handed(self.world, 0, 0, 1, 0)
        handed(self.world, 0, 1, 2, 1)
        waved(self.world)
        collected(self.world, 1, 2)
        waved(self.world, 2)
        collected(self.world, 0)
        waved(self.world)
        self.assertEqual(self.world.entries(0), [(1, 0, 1), (2, 1, 1)])
        self.assertEqual(ages(self.world, 0), (4, 0, 3, 3, None))

    def test_a_given_reference_that_is_near(self):
        self.world.give(1, 0, 0)
        carry(self.world, 1, 0)
        self.assertEqual(ages(self.world, 0), (4, 0, 1, 1, None))
        self.assertEqual(self.world.entries(0), [(1, 0, 1), (2, 1, 1)])
        self.assertEqual(ages(self.world, 1), (4, 0, 1, 1, None))

    def test_an_enter_of_what_another_site_gave(self):
        self.world.give(1, 0, 2)
        carry(self.world, 1, 2)
        self.assertEqual(ages(self.world, 0), (4, 0, 3, 3, None))
        carry(self.world, 2, 0)
        self.assertEqual(ages(self.world, 0), (4, 0, 1, 1, None))
        self.assertEqual(self.world.entries(0), [(1, 0, 1), (2, 0, None), (2, 1, 1)])

    def test_an_enter_of_what_the_owner_gave(self):
        self.world.give(0, 0, 1)
        carry(self.world, 0, 1)
        carry(self.world, 1, 0)
        # The entry for site 1 itself had the stamp 1, but the giver is the owner.
        self.assertEqual(ages(self.world, 0), (4, 0, 3, 3, None))
        self.assertEqual(self.world.entries(0), [(1, 0, None), (2, 1, 1)])

    def test_a_fetch(self):
        for field in (0, 1, 7):
            self.setUp()
            self.world.fetch(1, 0, field)
            carry(self.world, 1, 0)
            self.assertEqual(ages(self.world, 0), (4, 0, 1, 1, None))

    def test_a_fetch_that_is_answered_by_a_reference(self):
        # Site 0 gives (1, 0) to site 1, which owns it and has an entry for site 0.
        world = self.world
        world.make(1, 2)
        handed(world, 1, 2, 0, 2)
        world.write(0, 0, 1, 2)
        collected(world, 0)
        waved(world, 2)
        collected(world, 1)
        waved(world)
        self.assertEqual(world.entries(1), [(0, 0, 4)])
        self.assertEqual(ages(world, 1)[2:], (6, 6, None))
        world.fetch(1, 0, 1)
        carry(world, 1, 0)
        carry(world, 0, 1)
        self.assertEqual(ages(world, 1)[2:], (4, 4, None))

    def test_a_greater_stamp(self):
        self.world.collect(1)
        self.assertEqual(carry(self.world, 1, 0), [("stamp", 0, 4)])
        self.assertEqual(self.world.entries(0), [(1, 0, 4), (2, 1, 1)])
        self.assertEqual(ages(self.world, 0), (4, 0, 1, 1, None))

    def test_the_stamp_of_a_fresh_entry(self):
        self.world.give(0, 0, 1)
        self.world.flush()
        self.assertEqual(self.world.entries(0), [(1, 0, None), (2, 1, 1)])
        self.world.collect(1)
        self.assertEqual(carry(self.world, 1, 0), [("stamp", 0, 4)])
        self.assertEqual(self.world.entries(0), [(1, 0, 4), (2, 1, 1)])
        self.assertEqual(ages(self.world, 0), (4, 0, 3, 3, None))

    def test_a_fresh_entry_does_not_lower(self):
        self.world.give(0, 0, 1)
        self.world.flush()
        self.world.take(1, 1)
        self.world.give(1, 0, 0)
        self.world.give(1, 0, 2)
        self.world.fetch(1, 0, 0)
        self.world.flush()
        self.assertEqual(ages(self.world, 0), (4, 0, 3, 3, None))
        self.assertEqual(self.world.entries(0), [(1, 0, None), (1, 1, None), (2, 0, None), (2, 1, 1)])

    def test_the_pending_value_is_lowered_too(self):
        # The letter that makes site 0 wait is a gift for site 2.
        self.world.give(0, 1, 2)
        self.world.collect(0)
        self.assertEqual(ages(self.world, 0), (4, 0, 3, 3, 4))
        self.world.give(1, 0, 0)
        carry(self.world, 1, 0)
        self.assertEqual(ages(self.world, 0), (4, 0, 1, 1, 1))
        carry(self.world, 0, 2)
        self.assertEqual(ages(self.world, 0), (4, 0, 1, 1, None))

    def test_a_smaller_low_value_stays(self):
        world = World(2)
        world.make(0, 0)
        handed(world, 0, 0, 1, 0)
        waved(world)
        collected(world, 1)
        waved(world)
        collected(world, 0)
        self.assertEqual(ages(world, 0), (2, 0, 2, 0, None))
        world.give(1, 0, 0)
        carry(world, 1, 0)
        self.assertEqual(ages(world, 0), (2, 0, 1, 0, None))

    def test_values_that_are_smaller_already_stay(self):
        world = World(2)
        world.make(0, 0)
        handed(world, 0, 0, 1, 0)
        waved(world, 2)
        collected(world, 1)
        self.assertEqual(world.entries(0), [(1, 0, 2)])
        world.make(0, 1)
        world.give(0, 1, 1)
        waved(world)
        world.give(0, 1, 1)
        world.collect(0)
        self.assertEqual(ages(world, 0), (3, 0, 0, 0, 3))
        world.give(1, 0, 0)
        carry(world, 1, 0)
        self.assertEqual(ages(world, 0), (3, 0, 0, 0, 2))

    def test_a_pending_value_is_lowered_after_the_settled_one_was(self):
        # The settled value becomes the pending one, whatever was lowered in between.
        self.world.give(0, 1, 2)
        self.world.collect(0)
        self.world.give(1, 0, 0)
        carry(self.world, 1, 0)
        self.world.collect(0)
        self.assertEqual(ages(self.world, 0), (4, 0, 1, 1, 4))
        self.world.flush()
        self.assertEqual(ages(self.world, 0), (4, 0, 4, 1, None))


class LeaveTest(LettersTest):

    def test_the_entry_is_removed(self):
        world = World(3)
        for variable in (0, 1):
            world.make(0, variable)
            for other in (1, 2):
                handed(world, 0, variable, other, variable)
        world.reset(1, 0)
        world.collect(1)
        self.check(world, 0, entries=[(1, 0, None), (1, 1, None), (2, 0, None), (2, 1, None)])
        self.assertEqual(carry(world, 1, 0), [("leave", 0), ("stamp", 1, 0)])
        self.check(world, 0, entries=[(1, 1, 0), (2, 0, None), (2, 1, None)])

    def test_a_leave_does_not_lower(self):
        world = World(2)
        world.make(0, 0)
        handed(world, 0, 0, 1, 0)
        collected(world, 1)
        waved(world)
        collected(world, 0)
        waved(world)
        self.assertEqual((world.entries(0), ages(world, 0)), ([(1, 0, 0)], (2, 0, 1, 1, None)))
        world.reset(1, 0)
        collected(world, 1)
        self.assertEqual((world.entries(0), ages(world, 0)), ([], (2, 0, 1, 1, None)))

    def test_a_leave_without_an_entry(self):
        # A ring over two sites: site 0 drops its entry itself, before the letter of site 1 comes.
        world = World(2)
        for site in (0, 1):
            world.make(site, 0, size=1)
        handed(world, 0, 0, 1, 1)
        handed(world, 1, 0, 0, 1)
        for site in (0, 1):
            world.write(site, 0, 0, 1)
            world.reset(site, 0)
            world.reset(site, 1)
        for _ in range(20):
            world.collect(0)
            if world.entries(0) == []:
                break
            world.flush()
            collected(world, 1)
            waved(world)
        self.assertEqual(carry(world, 0, 1), [("leave", 0)])
        self.assertEqual((world.entries(0), world.entries(1), world.holdings(1)), ([], [], [((0, 0), 0)]))
        world.collect(1)
        self.assertEqual(carry(world, 1, 0), [("leave", 0)])
        for site in (0, 1):
            self.check(world, site, entries=[], holdings=[], objects=[])


class AloneTest(unittest.TestCase):
    """Letters as no world brings them, to a site by itself."""

    def setUp(self):
        self.site = Site(0, 2)
        self.site.make(0, 1, 0)

    def test_a_stamp_without_an_entry(self):
        self.site.accept(1, ("stamp", 0, 3))
        self.assertEqual(self.site.entries, {})

    def test_a_stamp_that_is_not_greater(self):
        self.site.accept(1, ("enter", 0, 0))
        for value, stamp in ((3, 3), (3, 3), (2, 3), (0, 3), (4, 4)):
            self.site.accept(1, ("stamp", 0, value))
            self.assertEqual(self.site.entries, {(1, 0): stamp})

    def test_a_stamp_that_is_not_greater_does_not_lower(self):
        self.site.accept(1, ("enter", 0, 0))
        self.site.accept(1, ("stamp", 0, 3))
        self.site.accept(1, ("ask", 9, 0))
        self.site.ages.await_settling()
        self.site.ages.settle()
        for value in (3, 2):
            self.site.accept(1, ("stamp", 0, value))
            self.assertEqual(self.site.ages.settled, 9)
        self.site.accept(1, ("stamp", 0, 4))
        self.assertEqual(self.site.ages.settled, 3)

    def test_an_ask_gives_its_bound_whatever_the_site_has(self):
        self.site.accept(1, ("ask", 4, 3))
        self.assertEqual((self.site.ages.clock, self.site.ages.bound), (4, 3))
        self.site.accept(1, ("ask", 5, 2))
        self.assertEqual((self.site.ages.clock, self.site.ages.bound), (5, 2))


if __name__ == "__main__":
    unittest.main()
