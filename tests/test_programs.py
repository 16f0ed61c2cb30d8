"""Points 3 to 5, and of point 10 what a program does within one site; look; and what each method raises."""

import unittest

from farheap import world as world_module
from farheap.errors import Empty, NotFar, NotNear, Unknown
from farheap.world import World
from worlds import LISTS, VALUES, ages, busy_world, handed, shown

GREAT = 10 ** 5000
METHODS = ("make", "assign", "reset", "look", "read", "write", "give", "take", "fetch", "collect", "begin_wave",
           "send", "deliver", "lose", "repeat", "flush", "calm_round", "packets", "live", "fields") + LISTS + VALUES


def wrong(count):
    """Numbers that are none of those from 0 below the count."""
    return (count, count + 1, -1, -count, -count - 1, GREAT, -GREAT)


class ProgramsTest(unittest.TestCase):

    def test_the_world_is_defined_with_its_methods_in_its_module(self):
        self.assertEqual(World.__module__, "farheap.world")
        self.assertIs(world_module.World, World)
        for name in METHODS:
            self.assertIn(name, vars(World))

    def test_a_new_world(self):
        for sites in range(1, 9):
            world = World(sites)
            for site in range(sites):
                self.assertEqual(world.variables(site), [None] * 8)
                for name in LISTS[1:]:
                    self.assertEqual(getattr(world, name)(site), [], name)
                self.assertEqual(ages(world, site), (0, 0, 0, 0, None))
            self.assertEqual((world.packets(), world.live()), ([], []))
            with self.assertRaises(Unknown):
                world.variables(sites)

    def test_a_world_beyond_the_limit(self):
        world = World(10)
        world.make(9, 0, mark=4)
        handed(world, 9, 0, 8, 7)
        self.assertEqual(world.variables(8)[7], (9, 0))
        world.calm_round()
        empty = World(0)
        self.assertIs(empty.begin_wave(), False)
        empty.calm_round()
        self.assertEqual((empty.live(), empty.packets()), ([], []))
        self.assertRaises(Unknown, empty.variables, 0)

    def test_make_counts_the_objects_of_each_site(self):
        world = World(2)
        self.assertEqual([world.make(0, 3), world.make(1, 0), world.make(0, 3), world.make(0, 0)],
                         [(0, 0), (1, 0), (0, 1), (0, 2)])
        self.assertEqual(world.variables(0), [(0, 2), None, None, (0, 1), None, None, None, None])
        self.assertEqual(world.variables(1), [(1, 0)] + [None] * 7)
        self.assertEqual((world.objects(0), world.objects(1)), ([0, 1, 2], [0]))

    def test_make_gives_as_many_fields_as_size_says(self):
        world = World(1)
        self.assertEqual(world.make(0, 0), (0, 0))
        self.assertEqual(world.fields(0, 0), [])
        for size in range(0, 12):
            reference = world.make(0, 1, size=size)
            self.assertIs(type(reference), tuple)
            self.assertEqual(world.fields(*reference), [None] * size)
            self.assertEqual(world.look(0, 1), 0)

    def test_make_keeps_the_mark(self):
        world = World(1)
        for mark in (0, 1, -1, 7, -10 ** 40, 10 ** 40, GREAT, -GREAT):
            world.make(0, 2, mark=mark)
            self.assertTrue(world.look(0, 2) == mark)
            self.assertEqual(world.fields(0, world.variables(0)[2][1]), [])
        world.make(0, 0, mark=5, size=2)
        self.assertEqual((world.look(0, 0), world.fields(*world.variables(0)[0])), (5, [None, None]))
        world.make(0, 0)
        self.assertEqual(world.look(0, 0), 0)

    def test_size_and_mark_go_by_keyword_only(self):
        self.assertRaises(TypeError, World(1).make, 0, 0, 1)

    def test_a_mark_never_changes(self):
        world = World(1)
        world.make(0, 0, size=1, mark=3)
        world.make(0, 1, mark=4)
        world.write(0, 0, 0, 1)
        world.collect(0)
        self.assertEqual((world.look(0, 0), world.look(0, 1)), (3, 4))

    def test_a_number_is_never_used_again(self):
        world = World(1)
        world.make(0, 0)
        world.make(0, 0)
        world.reset(0, 0)
        world.collect(0)
        self.assertEqual(world.objects(0), [])
        self.assertEqual(world.make(0, 0), (0, 2))
        self.assertEqual(world.objects(0), [2])

    def test_every_variable_of_every_site(self):
        world = World(8)
        for site in range(8):
            for variable in range(8):
                self.assertEqual(world.make(site, variable, mark=8 * site + variable), (site, variable))
        for site in range(8):
            self.assertEqual(world.variables(site), [(site, number) for number in range(8)])
            self.assertEqual([world.look(site, variable) for variable in range(8)], list(range(8 * site, 8 * site + 8)))

    def test_assign_copies(self):
        world = World(2)
        world.make(0, 0)
        world.assign(0, 0, 5)
        world.make(0, 0)
        self.assertEqual(world.variables(0), [(0, 1), None, None, None, None, (0, 0), None, None])
        world.assign(0, 5, 5)
        world.assign(0, 7, 0)
        self.assertEqual(world.variables(0), [None, None, None, None, None, (0, 0), None, None])
        self.assertEqual(world.variables(1), [None] * 8)

    def test_reset(self):
        world = World(2)
        world.make(0, 0)
        world.make(1, 0)
        world.assign(0, 0, 1)
        world.reset(0, 0)
        world.reset(0, 0)
        self.assertEqual(world.variables(0), [None, (0, 0)] + [None] * 6)
        self.assertEqual(world.variables(1), [(1, 0)] + [None] * 7)
        self.assertEqual(world.objects(0), [0])

    def test_write_and_read(self):
        world = World(1)
        world.make(0, 0, size=3)
        world.make(0, 1)
        world.write(0, 0, 1, 1)
        world.write(0, 0, 2, 0)
        self.assertEqual(world.fields(0, 0), [None, (0, 1), (0, 0)])
        world.read(0, 0, 1, 4)
        world.read(0, 0, 2, 5)
        world.read(0, 0, 0, 1)
        self.assertEqual(world.variables(0), [(0, 0), None, None, None, (0, 1), (0, 0), None, None])
        world.write(0, 0, 1, 1)
        self.assertEqual(world.fields(0, 0), [None, None, (0, 0)])
        world.read(0, 0, 1, 0)
        self.assertIsNone(world.variables(0)[0])

    def test_two_variables_with_one_object(self):
        world = World(1)
        world.make(0, 0, size=1)
        world.assign(0, 0, 1)
        world.write(0, 0, 0, 1)
        world.read(0, 1, 0, 2)
        self.assertEqual(world.variables(0)[:3], [(0, 0)] * 3)

    def test_read_into_the_variable_itself(self):
        world = World(1)
        world.make(0, 0, size=1)
        world.make(0, 1)
        world.write(0, 0, 0, 1)
        world.read(0, 0, 0, 0)
        self.assertEqual(world.variables(0)[0], (0, 1))

    def test_a_far_reference_in_fields_and_variables(self):
        world = World(2)
        world.make(1, 0, size=1, mark=9)
        handed(world, 1, 0, 0, 2)
        world.make(0, 0, size=2)
        world.write(0, 0, 1, 2)
        world.read(0, 0, 1, 6)
        world.assign(0, 2, 7)
        self.assertEqual(world.fields(0, 0), [None, (1, 0)])
        self.assertEqual(world.variables(0), [(0, 0), None, (1, 0), None, None, None, (1, 0), (1, 0)])

    def test_what_returns_nothing(self):
        world = World(2)
        world.make(0, 0, size=1)
        done = [world.assign(0, 0, 1), world.write(0, 0, 0, 0), world.read(0, 0, 0, 2), world.reset(0, 2),
                world.give(0, 0, 1), world.send(0), world.repeat(0), world.lose(0), world.deliver(0), world.flush(),
                world.take(1, 0), world.fetch(1, 0, 0), world.collect(0), world.calm_round()]
        self.assertEqual(done, [None] * len(done))


class RefusedTest(unittest.TestCase):

    def setUp(self):
        self.world = busy_world()
        # At site 1: variable 0 is far, variable 1 is near with 8 fields, variable 2 is None.
        self.assertEqual(self.world.variables(1)[:3], [(0, 0), (1, 0), None])

    def refused(self, error, method, *arguments, **more):
        before = shown(self.world, 3)
        with self.assertRaises(error) as caught:
            getattr(self.world, method)(*arguments, **more)
        self.assertIs(type(caught.exception), error)
        self.assertTrue(shown(self.world, 3) == before, (method, arguments))

    def test_wrong_sites(self):
        calls = [("make", 0), ("assign", 0, 1), ("reset", 0), ("look", 1), ("read", 1, 0, 0), ("write", 1, 0, 0),
                 ("give", 1, 0), ("take", 0), ("fetch", 0, 0), ("collect",), ("send",), ("fields", 0)]
        for site in wrong(3):
            for method, *rest in calls + [(name,) for name in LISTS + VALUES]:
                self.refused(Unknown, method, site, *rest)
            self.refused(Unknown, "make", site, 0, size=3, mark=-1)

    def test_wrong_variables(self):
        # The name, the place of the variable among the arguments, and the other arguments.
        calls = [("make", 0), ("assign", 0, 0), ("assign", 1, 0), ("reset", 0), ("look", 0), ("read", 0, 0, 0),
                 ("read", 2, 1, 0), ("write", 0, 0, 0), ("write", 2, 1, 0), ("give", 0, 0), ("take", 0),
                 ("fetch", 0, 0)]
        for variable in wrong(8):
            for method, place, *rest in calls:
                rest.insert(place, variable)
                self.refused(Unknown, method, 1, *rest)

    def test_look(self):
        self.refused(Empty, "look", 1, 2)
        self.refused(NotNear, "look", 1, 0)
        self.refused(Unknown, "look", 1, 8)
        self.assertEqual(self.world.look(1, 1), -3)

    def test_read_and_write(self):
        for method in ("read", "write"):
            self.refused(Empty, method, 1, 2, 0, 0)
            self.refused(NotNear, method, 1, 0, 0, 0)
            for field in wrong(8):
                self.refused(Unknown, method, 1, 1, field, 0)

    def test_fields_of_objects_of_other_sizes(self):
        world = World(1)
        for size in range(9):
            world.make(0, 0, size=size)
            for field in wrong(size):
                self.assertRaises(Unknown, world.read, 0, 0, field, 1)
                self.assertRaises(Unknown, world.write, 0, 0, field, 1)
            for field in range(size):
                world.write(0, 0, field, 0)
                world.read(0, 0, field, 0)

    def test_read_and_write_with_several_errors(self):
        for method in ("read", "write"):
            # A variable that does not exist comes before one that is empty or far, and that before the field.
            self.refused(Unknown, method, 1, 2, 0, 8)
            self.refused(Unknown, method, 1, 0, 0, -1)
            self.refused(Unknown, method, 1, 0, 99, -1)
            self.refused(Unknown, method, 1, 8, 0, 0)
            self.refused(Empty, method, 1, 2, 8, 0)
            self.refused(Empty, method, 1, 2, -1, 2)
            self.refused(NotNear, method, 1, 0, 8, 0)
            self.refused(NotNear, method, 1, 0, -1, 2)
            self.refused(Unknown, method, 3, 2, 0, 0)

    def test_give(self):
        self.refused(Empty, "give", 1, 2, 0)
        for other in wrong(3) + (1,):
            self.refused(Unknown, "give", 1, 1, other)
            self.refused(Unknown, "give", 1, 0, other)
            self.refused(Unknown, "give", 1, 2, other)
        self.refused(Unknown, "give", 1, 8, 0)
        self.refused(Unknown, "give", 1, -1, 1)

    def test_give_in_a_world_with_one_site(self):
        world = World(1)
        world.make(0, 0)
        for other in (0, 1, -1):
            self.assertRaises(Unknown, world.give, 0, 0, other)
        self.assertEqual(world.parcels(0), [])

    def test_take(self):
        self.refused(Empty, "take", 1, 0)
        self.refused(Unknown, "take", 1, 8)
        self.assertNotEqual(self.world.inbox(0), [])
        self.refused(Unknown, "take", 0, -1)

    def test_fetch(self):
        self.refused(Empty, "fetch", 1, 2, 0)
        self.refused(NotFar, "fetch", 1, 1, 0)
        self.refused(NotFar, "fetch", 1, 1, 10 ** 30)
        self.refused(Unknown, "fetch", 1, 8, 0)
        self.refused(Unknown, "fetch", 3, 0, 0)

    def test_objects_that_do_not_exist(self):
        for number in wrong(2):
            self.refused(Unknown, "fields", 0, number)
        self.refused(Unknown, "fields", 2, 0)
        world = World(1)
        world.make(0, 0)
        world.make(0, 0)
        world.collect(0)
        self.assertRaises(Unknown, world.fields, 0, 0)
        self.assertEqual(world.fields(0, 1), [])

    def test_indexes_of_packets(self):
        count = len(self.world.packets())
        for method in ("deliver", "lose", "repeat"):
            for index in wrong(count):
                self.refused(Unknown, method, index)

    def test_numbers_go_on_as_if_the_call_had_not_been(self):
        self.refused(Unknown, "make", 1, 8, size=2)
        self.refused(Unknown, "make", 1, -1, mark=2)
        self.refused(Empty, "give", 1, 2, 0)
        self.refused(Unknown, "give", 1, 1, 1)
        self.refused(Empty, "fetch", 1, 2, 0)
        self.refused(NotFar, "fetch", 1, 1, 0)
        fresh = busy_world()
        for world in (self.world, fresh):
            world.make(1, 3)
            world.give(1, 1, 2)
            world.fetch(1, 0, 1)
            world.send(1)
            self.assertEqual(world.variables(1)[3], (1, 1))
            self.assertEqual([parcel[0] for parcel in world.parcels(1)], [1, 2])
            self.assertEqual([question[0] for question in world.questions(1)], [0, 1])
        self.assertTrue(shown(self.world, 3) == shown(fresh, 3))


if __name__ == "__main__":
    unittest.main()
