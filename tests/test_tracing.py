"""Point 13 as far as farheap.tracing does it: what sources reach, and the greatest values."""

import copy
import random
import unittest

from farheap import tracing
from farheap.tracing import greatest, reach

GREAT = 10 ** 60


def plainly_reached(fields, start):
    """What a source reaches, found by going round and round until nothing is added."""
    if isinstance(start, tuple):
        return [], [start]
    objects = [start] if start in fields else []
    changed = True
    while changed:
        changed = False
        for number in list(objects):
            for contents in fields[number]:
                if contents in fields and contents not in objects:
                    objects.append(contents)
                    changed = True
    references = {contents for number in objects for contents in fields[number] if isinstance(contents, tuple)}
    return sorted(objects), sorted(references)


def plainly_greatest(fields, sources):
    objects, references = {}, {}
    for start, value in sources:
        for found, reached in zip((objects, references), plainly_reached(fields, start)):
            for key in reached:
                found[key] = max(found.get(key, value), value)
    return objects, references


def random_fields(chance):
    numbers = chance.sample(range(12), chance.randrange(10))
    contents = list(range(13)) + [None] * 4 + [(1, 0), (1, 3), (2, 0), (0, 5)]
    return {number: tuple(chance.choices(contents, k=chance.randrange(4))) for number in numbers}


def random_start(chance):
    return chance.choice([chance.randrange(13), chance.randrange(13), (1, chance.randrange(4))])


class ReachTest(unittest.TestCase):

    def check(self, fields, start, objects, references):
        self.assertEqual(reach(fields, start), (objects, references))

    def test_both_are_defined_in_the_module(self):
        for function in (reach, greatest):
            self.assertEqual(function.__module__, "farheap.tracing")
            self.assertIs(vars(tracing)[function.__name__], function)

    def test_no_object(self):
        self.check({}, 0, [], [])
        self.check({}, (1, 0), [], [(1, 0)])

    def test_the_start_is_reached_itself(self):
        self.check({3: ()}, 3, [3], [])
        self.check({3: (None, None), 4: (3,)}, 3, [3], [])

    def test_an_object_that_refers_to_itself(self):
        self.check({0: (0, None, 0)}, 0, [0], [])
        self.check({5: ((1, 5), 5)}, 5, [5], [(1, 5)])

    def test_rings(self):
        fields = {0: (1,), 1: (2,), 2: (0,), 3: (4, 0), 4: (3,)}
        for start in (0, 1, 2):
            self.check(fields, start, [0, 1, 2], [])
        for start in (3, 4):
            self.check(fields, start, [0, 1, 2, 3, 4], [])

    def test_ways_that_meet_again(self):
        fields = {9: (2, 7), 7: (4, (3, 1)), 2: (4, (3, 1)), 4: ((2, 9), None), 1: (9,)}
        self.check(fields, 9, [2, 4, 7, 9], [(2, 9), (3, 1)])
        self.check(fields, 7, [4, 7], [(2, 9), (3, 1)])

    def test_only_what_fields_lead_to_is_reached(self):
        fields = {0: (1,), 1: (), 2: (0,), 3: ()}
        self.check(fields, 0, [0, 1], [])
        self.check(fields, 1, [1], [])

    def test_numbers_that_do_not_exist(self):
        fields = {1: (2, 5, 1), 5: (6, (1, 0))}
        for start in (0, 2, 6, 100, -1, GREAT):
            self.check(fields, start, [], [])
        self.check(fields, 1, [1, 5], [(1, 0)])

    def test_zero_is_an_object_like_others(self):
        self.check({0: ((1, 0),), 2: (0,)}, 2, [0, 2], [(1, 0)])

    def test_a_far_reference_as_a_start(self):
        fields = {0: ((1, 0), 1), 1: ()}
        self.check(fields, (1, 0), [], [(1, 0)])
        self.check(fields, (7, GREAT), [], [(7, GREAT)])

    def test_far_references_once_and_ascending(self):
        fields = {0: ((2, 0), (1, 9), 1), 1: ((1, 9), (1, 10), (2, 0)), 2: ((0, 0),)}
        self.check(fields, 0, [0, 1], [(1, 9), (1, 10), (2, 0)])

    def test_objects_ascending(self):
        fields = {number: ((number + 7) % 30,) for number in range(29, -1, -1)}
        self.check(fields, 8, list(range(30)), [])

    def test_the_kinds_of_what_is_returned(self):
        for start in (0, 4, (1, 0)):
            found = reach({0: ((1, 2),)}, start)
            self.assertIs(type(found), tuple)
            self.assertEqual([type(part) for part in found], [list, list])

    def test_random_fields(self):
        for seed in range(400):
            chance = random.Random(seed)
            fields = random_fields(chance)
            before = copy.deepcopy(fields)
            for _ in range(5):
                start = random_start(chance)
                with self.subTest(fields=fields, start=start):
                    self.check(fields, start, *plainly_reached(fields, start))
            self.assertEqual(fields, before)
            self.assertEqual(list(fields), list(before))

    def test_what_is_returned_belongs_to_the_caller(self):
        fields = {0: (1, (1, 4)), 1: ()}
        for _ in range(2):
            objects, references = reach(fields, 0)
            self.assertEqual((objects, references), ([0, 1], [(1, 4)]))
            objects.append(5)
            references.clear()
        self.assertEqual(fields, {0: (1, (1, 4)), 1: ()})

    def test_a_chain_and_a_ring_of_thousands(self):
        count = 6000
        chain = {number: (None, number + 1) for number in range(count)}
        ring = {number: ((number + 1) % count,) for number in range(count)}
        ring[count - 1] = (0, (3, 3))
        # Not assertEqual: it takes minutes to show how two long lists differ.
        self.assertTrue(reach(chain, 0) == (list(range(count)), []))
        self.assertTrue(reach(chain, 2500) == (list(range(2500, count)), []))
        for start in (0, 1, count - 1):
            self.assertTrue(reach(ring, start) == (list(range(count)), [(3, 3)]))


class GreatestTest(unittest.TestCase):

    def check(self, fields, sources, objects, references):
        self.assertEqual(greatest(fields, sources), (objects, references))

    def test_no_source(self):
        self.check({}, [], {}, {})
        self.check({0: (0, (1, 0))}, [], {}, {})

    def test_no_object(self):
        self.check({}, [(0, 5)], {}, {})
        self.check({}, [((1, 2), 5), (3, 9)], {}, {(1, 2): 5})

    def test_one_source(self):
        fields = {0: (1, (1, 1)), 1: (0, 2), 2: ((2, 0),), 3: (0,)}
        self.check(fields, [(0, 4)], {0: 4, 1: 4, 2: 4}, {(1, 1): 4, (2, 0): 4})
        self.check(fields, [(2, 0)], {2: 0}, {(2, 0): 0})

    def test_each_keeps_the_greatest_value_in_any_order(self):
        fields = {0: (1, (1, 1)), 1: (2,), 2: (), 3: (2, (1, 1)), 4: (4,)}
        sources = [(0, 3), (1, 8), (3, 5), (4, -1)]
        objects = {0: 3, 1: 8, 2: 8, 3: 5, 4: -1}
        for _ in range(4):
            self.check(fields, sources, objects, {(1, 1): 5})
            sources = sources[1:] + sources[:1]
        self.check(fields, sources[::-1], objects, {(1, 1): 5})

    def test_a_start_several_times(self):
        fields = {0: ((1, 0),)}
        for values in ([1, 9, 4], [9, 4, 1], [1, 4, 9]):
            self.check(fields, [(0, value) for value in values], {0: 9}, {(1, 0): 9})
            self.check(fields, [((2, 2), value) for value in values], {}, {(2, 2): 9})
        self.check(fields, [(0, 2), (0, 2)], {0: 2}, {(1, 0): 2})

    def test_a_far_reference_as_a_start_and_in_a_field(self):
        fields = {0: ((1, 0),)}
        self.check(fields, [((1, 0), 5), (0, 2)], {0: 2}, {(1, 0): 5})
        self.check(fields, [((1, 0), 1), (0, 2)], {0: 2}, {(1, 0): 2})

    def test_numbers_that_do_not_exist(self):
        self.check({1: (2, 3), 3: ()}, [(2, 9), (1, 1), (-1, 8), (GREAT, 3)], {1: 1, 3: 1}, {})

    def test_negative_and_very_great_values(self):
        fields = {0: (1,), 1: ((1, 0),), 2: (1,)}
        self.check(fields, [(0, -5), (2, -7)], {0: -5, 1: -5, 2: -7}, {(1, 0): -5})
        self.check(fields, [(0, -GREAT), (2, GREAT)], {0: -GREAT, 1: GREAT, 2: GREAT}, {(1, 0): GREAT})
        self.check(fields, [(0, 0), (2, -1)], {0: 0, 1: 0, 2: -1}, {(1, 0): 0})

    def test_the_kinds_of_what_is_returned(self):
        found = greatest({0: ((1, 2),)}, [(0, 1)])
        self.assertIs(type(found), tuple)
        self.assertEqual([type(part) for part in found], [dict, dict])

    def test_random_fields(self):
        for seed in range(600):
            chance = random.Random(seed)
            fields = random_fields(chance)
            sources = [(random_start(chance), chance.randrange(-3, 6)) for _ in range(chance.randrange(7))]
            before = copy.deepcopy((fields, sources))
            with self.subTest(fields=fields, sources=sources):
                self.check(fields, sources, *plainly_greatest(fields, sources))
                self.assertEqual((fields, sources), before)

    def test_what_is_returned_belongs_to_the_caller(self):
        fields, sources = {0: (1, (1, 4)), 1: ()}, [(0, 3), (1, 1)]
        for _ in range(2):
            objects, references = greatest(fields, sources)
            self.assertEqual((objects, references), ({0: 3, 1: 3}, {(1, 4): 3}))
            objects[1] = 99
            references.clear()
        self.assertEqual((fields, sources), ({0: (1, (1, 4)), 1: ()}, [(0, 3), (1, 1)]))

    def test_a_chain_and_a_ring_of_thousands(self):
        count = 6000
        chain = {number: (number + 1,) for number in range(count)}
        # Each source begins further on than the ones with smaller values.
        sources = [(number, number) for number in range(count)]
        # Not assertEqual: it takes minutes to show how two long dicts differ.
        self.assertTrue(greatest(chain, sources) == ({number: number for number in range(count)}, {}))
        self.assertTrue(greatest(chain, [(number, -number) for number in range(count)])
                        == ({number: 0 for number in range(count)}, {}))
        ring = {number: ((number + 1) % count, (1, number)) for number in range(count)}
        objects, references = greatest(ring, sources)
        self.assertTrue(objects == {number: count - 1 for number in range(count)})
        self.assertTrue(references == {(1, number): count - 1 for number in range(count)})


if __name__ == "__main__":
    unittest.main()
