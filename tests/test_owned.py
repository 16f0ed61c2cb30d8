"""Point 2: what is returned belongs to the caller, arguments are not modified, and worlds share nothing."""

import unittest

from farheap.world import World
from worlds import LISTS, busy_world, handed, shown


def spoil(values):
    values.reverse()
    values.append("spoiled")
    values[0] = None


class OwnedTest(unittest.TestCase):

    def test_every_list_belongs_to_the_caller(self):
        world = busy_world()
        before = shown(world, 3)
        for site in range(3):
            for name in LISTS:
                values = getattr(world, name)(site)
                self.assertIs(type(values), list)
                spoil(values)
                self.assertEqual(shown(world, 3), before, name)
            for number in world.objects(site):
                values = world.fields(site, number)
                self.assertIs(type(values), list)
                spoil(values)
                self.assertEqual(shown(world, 3), before)
        for values in (world.packets(), world.live()):
            self.assertIs(type(values), list)
            spoil(values)
            self.assertEqual(shown(world, 3), before)

    def test_a_list_does_not_change_later(self):
        world = busy_world()
        kept = shown(world, 3)
        same = shown(busy_world(), 3)
        self.assertEqual(kept, same)
        world.flush()
        world.make(0, 0)
        world.take(0, 5)
        world.assign(1, 1, 0)
        world.read(1, 1, 2, 4)
        world.write(1, 1, 2, 1)
        for _ in range(3):
            world.calm_round()
        self.assertNotEqual(shown(world, 3), same)
        self.assertEqual(kept, same)

    def test_what_is_in_the_lists_cannot_be_changed(self):
        world = busy_world()
        for site in range(3):
            for name in LISTS:
                for value in getattr(world, name)(site):
                    self.assertIn(type(value), (tuple, int, type(None)), name)
        for packet in world.packets():
            self.assertIs(type(packet), tuple)
            self.assertIs(type(packet[4]), tuple)

    def test_looking_changes_nothing(self):
        world, other = busy_world(), busy_world()
        for _ in range(3):
            shown(world, 3)
        for each in (world, other):
            each.send(1)
            each.flush()
        self.assertEqual(shown(world, 3), shown(other, 3))

    def test_two_worlds_share_nothing(self):
        world, other = World(3), World(3)
        fresh = shown(World(3), 3)
        world.make(0, 0, size=3, mark=4)
        handed(world, 0, 0, 1, 0)
        world.make(1, 1, size=2)
        world.write(1, 1, 0, 0)
        world.give(1, 1, 2)
        world.fetch(1, 0, 0)
        world.begin_wave()
        for site in range(3):
            world.collect(site)
            world.send(site)
        self.assertEqual(shown(other, 3), fresh)
        self.assertEqual(shown(World(3), 3), fresh)
        before = shown(world, 3)
        self.assertIs(other.begin_wave(), True)
        self.assertEqual(other.make(0, 2), (0, 0))
        other.give(0, 2, 1)
        other.flush()
        self.assertEqual(other.parcels(0), [])
        self.assertEqual(other.clock(2), 1)
        self.assertEqual(shown(world, 3), before)

    def test_worlds_of_the_same_course_are_the_same(self):
        self.assertEqual(shown(busy_world(), 3), shown(busy_world(), 3))


if __name__ == "__main__":
    unittest.main()
