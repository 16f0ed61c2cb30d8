"""Points 16 and 17: waves."""

import unittest

from farheap.world import World
from worlds import ages, carry, collected, handed, under_way, waved


class WavesTest(unittest.TestCase):

    def test_a_wave_step_by_step(self):
        world = World(3)
        self.assertIs(world.begin_wave(), True)
        self.assertEqual(world.packets(), [])
        self.assertEqual([ages(world, site) for site in range(3)], [(1, 0, 0, 0, None)] + [(0, 0, 0, 0, None)] * 2)
        self.assertEqual(under_way(world, 0), [(1, ("ask", 1, 0)), (2, ("ask", 1, 0))])
        self.assertEqual(carry(world, 0, 2), [("ask", 1, 0)])
        self.assertEqual(ages(world, 2), (1, 0, 0, 0, None))
        self.assertEqual(under_way(world, 2), [(0, ("tell", 1, 0))])
        self.assertIs(world.begin_wave(), False)
        carry(world, 2, 0)
        self.assertIs(world.begin_wave(), False)
        carry(world, 0, 1)
        self.assertEqual(ages(world, 1), (1, 0, 0, 0, None))
        self.assertIs(world.begin_wave(), False)
        carry(world, 1, 0)
        self.assertIs(world.begin_wave(), True)
        self.assertEqual([ages(world, site)[:2] for site in range(3)], [(2, 0), (1, 0), (1, 0)])
        self.assertEqual(under_way(world, 0), [(1, ("ask", 2, 0)), (2, ("ask", 2, 0))])

    def test_a_refused_wave_changes_nothing(self):
        world = World(2)
        world.begin_wave()
        world.collect(0)
        before = (ages(world, 0), under_way(world, 0))
        for _ in range(3):
            self.assertIs(world.begin_wave(), False)
        self.assertEqual((ages(world, 0), under_way(world, 0)), before)
        world.flush()
        self.assertIs(world.begin_wave(), True)
        self.assertEqual(world.clock(0), 2)

    def test_the_low_values_and_the_bound(self):
        world = World(3)
        waved(world, 3)
        for site in range(3):
            self.assertEqual(ages(world, site), (3, 0, 0, 0, None))
        collected(world, 0, 1, 2)
        for site in range(3):
            self.assertEqual(ages(world, site), (3, 0, 3, 0, None))
        # The low values of this wave are still 0; those of the next one are 3.
        waved(world)
        for site in range(3):
            self.assertEqual(ages(world, site), (4, 0, 3, 3, None))
        waved(world)
        self.assertEqual([ages(world, site) for site in range(3)],
                         [(5, 3, 3, 3, None), (5, 0, 3, 3, None), (5, 0, 3, 3, None)])
        # Only the next wave takes the bound to the other sites.
        world.begin_wave()
        self.assertEqual(under_way(world, 0), [(1, ("ask", 6, 3)), (2, ("ask", 6, 3))])
        carry(world, 0, 1)
        self.assertEqual([world.bound(site) for site in range(3)], [3, 3, 0])
        self.assertEqual(under_way(world, 1), [(0, ("tell", 6, 3))])

    def settled_at(self, values):
        """Return a world whose sites settled at these values, and whose low values are the same. The clock is 9."""
        world = World(len(values))
        for clock in range(1, 9):
            waved(world)
            for site, value in enumerate(values):
                if value == clock:
                    world.collect(site)
        waved(world)
        self.assertEqual([ages(world, site)[2:] for site in range(len(values))],
                         [(value, value, None) for value in values])
        return world

    def test_the_bound_is_the_least_of_all(self):
        for values, bound in (([5, 3, 4], 3), ([2, 3, 4], 2), ([5, 5, 1], 1), ([7, 7, 7], 7), ([0, 3, 3], 0),
                              ([3, 0, 3], 0), ([4], 4), ([6, 5], 5), ([8, 7, 6, 5, 4, 3, 2, 1], 1)):
            world = self.settled_at(values)
            waved(world)
            self.assertEqual(world.bound(0), bound)
            waved(world)
            self.assertEqual([world.bound(site) for site in range(len(values))], [bound] * len(values))

    def test_the_bound_does_not_fall(self):
        world = self.settled_at([8, 8])
        waved(world, 2)
        self.assertEqual((world.bound(0), world.bound(1)), (8, 8))
        # An old stamp lowers site 0 below its bound.
        world = self.lowered_below_the_bound()
        self.assertEqual((world.bound(0), world.low(0)), (4, 2))
        waved(world)
        self.assertEqual((world.bound(0), world.bound(1)), (4, 4))
        waved(world)
        self.assertEqual((world.bound(0), world.bound(1)), (4, 4))

    def lowered_below_the_bound(self):
        world = World(2)
        waved(world, 4)
        collected(world, 0, 1)
        waved(world, 3)
        self.assertEqual([ages(world, site) for site in (0, 1)], [(7, 4, 4, 4, None)] * 2)
        # No course of a world leads below the bound, so the old stamp is made by hand.
        world.make(0, 0)
        handed(world, 0, 0, 1, 0)
        world._sites[0].entries[1, 0] = 2
        world.give(1, 0, 0)
        carry(world, 1, 0)
        return world

    def test_the_low_value_that_is_told_is_the_least_since_the_wave_before(self):
        world = World(2)
        world.make(0, 0)
        handed(world, 0, 0, 1, 0)
        waved(world)
        collected(world, 1)
        waved(world, 3)
        collected(world, 0)
        waved(world)
        self.assertEqual((world.entries(0), ages(world, 0)), ([(1, 0, 1)], (5, 0, 4, 4, None)))
        world.give(1, 0, 0)
        world.flush()
        self.assertEqual(ages(world, 0), (5, 0, 1, 1, None))
        collected(world, 1)
        collected(world, 0)
        # Site 0 settled again, but its low value remembers.
        self.assertEqual(ages(world, 0), (5, 0, 5, 1, None))
        self.assertEqual(ages(world, 1)[2:4], (5, 1))
        waved(world)
        self.assertEqual(ages(world, 0), (6, 1, 5, 5, None))
        waved(world)
        self.assertEqual(ages(world, 0), (7, 5, 5, 5, None))

    def test_the_low_value_that_is_told_is_that_of_the_moment_of_the_ask(self):
        world = World(2)
        waved(world, 3)
        world.begin_wave()
        world.collect(1)
        self.assertEqual(ages(world, 1), (3, 0, 3, 0, None))
        carry(world, 0, 1)
        self.assertEqual(under_way(world, 1), [(0, ("tell", 4, 0))])
        self.assertEqual(ages(world, 1), (4, 0, 3, 3, None))
        world.collect(1)
        self.assertEqual(under_way(world, 1), [(0, ("tell", 4, 0))])

    def test_a_wave_that_is_open_for_long(self):
        world = World(3)
        world.make(1, 0)
        handed(world, 1, 0, 2, 0)
        world.begin_wave()
        carry(world, 0, 1)
        carry(world, 1, 0)
        for turn in range(5):
            self.assertIs(world.begin_wave(), False)
            for site in range(3):
                world.collect(site)
            carry(world, 1, 2)
            carry(world, 2, 1)
            self.assertEqual([world.clock(site) for site in range(3)], [1, 1, 0])
            self.assertEqual(world.pending(0), 1)
        self.assertEqual(world.entries(1), [(2, 0, 0)])
        world.flush()
        self.assertEqual(ages(world, 0), (1, 0, 1, 0, None))
        self.assertEqual(ages(world, 2), (1, 0, 0, 0, None))
        self.assertIs(world.begin_wave(), True)

    def test_an_ask_that_comes_twice_counts_once(self):
        world = World(3)
        world.begin_wave()
        world.send(0)
        world.repeat(0)
        for _ in range(3):
            world.deliver(0)
        while world.packets():
            world.lose(0)
        self.assertEqual(under_way(world, 1), [(0, ("tell", 1, 0))])
        world.send(1)
        world.repeat(0)
        world.deliver(0)
        world.deliver(0)
        self.assertIs(world.begin_wave(), False)

    def test_pending_values_are_not_changed_by_a_wave(self):
        world = World(2)
        world.make(0, 0)
        waved(world, 2)
        world.give(0, 0, 1)
        world.collect(0)
        world.begin_wave()
        self.assertEqual(ages(world, 0), (3, 0, 0, 0, 2))
        world.give(0, 0, 1)
        world.flush()
        self.assertEqual(ages(world, 0), (3, 0, 2, 0, None))

    def test_a_world_with_a_single_site(self):
        world = World(1)
        seen = []
        for _ in range(4):
            self.assertIs(world.begin_wave(), True)
            seen.append(ages(world, 0))
            world.collect(0)
        self.assertEqual(seen, [(1, 0, 0, 0, None), (2, 0, 1, 1, None), (3, 1, 2, 2, None), (4, 2, 3, 3, None)])
        self.assertEqual(world.packets(), [])

    def test_a_single_site_that_does_not_collect(self):
        world = World(1)
        for clock in range(1, 6):
            self.assertIs(world.begin_wave(), True)
            self.assertEqual(ages(world, 0), (clock, 0, 0, 0, None))


if __name__ == "__main__":
    unittest.main()
