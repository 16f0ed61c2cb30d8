"""The whole program: programs, letters, collections and waves in any order, and calm rounds behind them."""

import collections
import random
import unittest

from farheap.world import World

# What may happen, and how often it does for each other thing.
STEPS = {"make": 4, "assign": 1, "reset": 3, "read": 2, "write": 5, "give": 4, "take": 4, "fetch": 3,
         "collect": 3, "begin_wave": 2, "send": 6, "deliver": 14, "lose": 1, "repeat": 1}


class Course:
    """A world in which things happen by chance, beside what its programs must see.

    The variables, the fields and the marks are kept here as well, for all objects that were ever created. Only
    what the sites keep of the references that are under way is taken from the world."""

    def __init__(self, test, sites, seed, *, variables=8):
        self.test, self.sites, self.used = test, sites, variables
        self.chance = random.Random(seed)
        self.world = World(sites)
        self.variables = [[None] * 8 for _ in range(sites)]
        self.fields = {}
        self.marks = {}
        self.given = [collections.Counter() for _ in range(sites)]
        self.taken = [collections.Counter() for _ in range(sites)]
        self.fetched = [0] * sites
        self.weights = {step: weight * self.chance.choice([0.3, 1, 1, 3]) for step, weight in STEPS.items()}
        self.weights["flush"] = self.chance.choice([0, 0.3, 1])
        self.weights["calm_round"] = self.chance.choice([0, 0.3, 1])

    # One thing that happens.

    def step(self):
        weights = self.weights
        if len(self.world.packets()) > 100:
            weights = dict(weights, deliver=60, send=1)
        name = self.chance.choices(list(weights), list(weights.values()))[0]
        site = self.chance.randrange(self.sites)
        if name in ("collect", "send"):
            getattr(self.world, name)(site)
        elif name in ("deliver", "lose", "repeat"):
            if self.world.packets():
                getattr(self.world, name)(self.chance.randrange(len(self.world.packets())))
        elif name in ("begin_wave", "flush", "calm_round"):
            getattr(self.world, name)()
        else:
            getattr(self, name)(site)

    def variable(self):
        return self.chance.randrange(self.used)

    def variable_with(self, site, fits):
        found = [variable for variable, reference in enumerate(self.variables[site])
                 if reference is not None and fits(reference)]
        return self.chance.choice(found) if found else None

    def make(self, site, size=None):
        variable = self.variable()
        size = self.chance.randrange(4) if size is None else size
        mark = self.chance.randrange(-9, 10)
        reference = self.world.make(site, variable, size=size, mark=mark)
        self.test.assertNotIn(reference, self.marks)
        self.variables[site][variable] = reference
        self.fields[reference] = [None] * size
        self.marks[reference] = mark
        return reference

    def assign(self, site):
        source, target = self.variable(), self.variable()
        self.world.assign(site, source, target)
        self.variables[site][target] = self.variables[site][source]

    def reset(self, site):
        self.clear(site, self.variable())

    def clear(self, site, variable):
        self.world.reset(site, variable)
        self.variables[site][variable] = None

    def near_field(self, site):
        variable = self.variable_with(site, lambda reference: reference[0] == site and self.fields[reference])
        if variable is None:
            return None, None, None
        reference = self.variables[site][variable]
        return variable, reference, self.chance.randrange(len(self.fields[reference]))

    def read(self, site):
        variable, reference, field = self.near_field(site)
        if variable is not None:
            target = self.variable()
            self.world.read(site, variable, field, target)
            self.variables[site][target] = self.fields[reference][field]

    def write(self, site):
        variable, reference, field = self.near_field(site)
        if variable is not None:
            source = self.variable()
            self.world.write(site, variable, field, source)
            self.fields[reference][field] = self.variables[site][source]

    def give(self, site):
        variable = self.variable_with(site, lambda reference: True)
        if variable is not None and self.sites > 1:
            self.hand(site, variable, self.chance.choice([other for other in range(self.sites) if other != site]))

    def hand(self, site, variable, other):
        self.world.give(site, variable, other)
        self.given[other][self.variables[site][variable]] += 1

    def take(self, site, variable=None):
        if self.world.inbox(site):
            variable = self.variable() if variable is None else variable
            reference = self.world.inbox(site)[0]
            self.world.take(site, variable)
            self.variables[site][variable] = reference
            self.taken[site][reference] += 1

    def fetch(self, site):
        variable = self.variable_with(site, lambda reference: reference[0] != site)
        if variable is not None:
            self.world.fetch(site, variable, self.chance.randrange(5))
            self.fetched[site] += 1

    # What must hold.

    def roots(self, site):
        found = [reference for reference in self.variables[site] if reference is not None]
        found += self.world.inbox(site)
        found += [parcel[2] for parcel in self.world.parcels(site)]
        found += [question[1] for question in self.world.questions(site)]
        found += [arrival[2] for arrival in self.world.arrivals(site)]
        return found

    def live(self):
        found = set()
        waiting = [reference for site in range(self.sites) for reference in self.roots(site)]
        while waiting:
            reference = waiting.pop()
            if reference is not None and reference not in found:
                found.add(reference)
                waiting += self.fields[reference]
        return found

    def check_safe(self):
        live = self.live()
        for reference in live:
            self.test.assertEqual(self.world.fields(*reference), self.fields[reference])
        self.test.assertEqual(self.world.live(), sorted(live))
        for site in range(self.sites):
            self.test.assertEqual(self.world.variables(site), self.variables[site])
            for variable, reference in enumerate(self.variables[site]):
                if reference is not None and reference[0] == site:
                    self.test.assertEqual(self.world.look(site, variable), self.marks[reference])
            for number in self.world.objects(site):
                self.test.assertEqual(self.world.fields(site, number), self.fields[site, number])

    def check_received(self):
        """Behind a flush each gift was received once, and at most one more reference for each question."""
        for site in range(self.sites):
            received = self.taken[site] + collections.Counter(self.world.inbox(site))
            self.test.assertEqual(self.given[site] - received, collections.Counter())
            self.test.assertLessEqual(sum((received - self.given[site]).values()), self.fetched[site])
            for name in ("parcels", "questions", "arrivals"):
                self.test.assertEqual(getattr(self.world, name)(site), [])

    def check_clean(self):
        """Exactly what point 20 says is left."""
        live = self.live()
        entries = []
        for site in range(self.sites):
            self.test.assertEqual([(site, number) for number in self.world.objects(site)],
                                  sorted(reference for reference in live if reference[0] == site))
            held = set(self.roots(site))
            for reference in live:
                if reference[0] == site:
                    held.update(self.fields[reference])
            held = sorted(reference for reference in held if reference is not None and reference[0] != site)
            self.test.assertEqual([reference for reference, _ in self.world.holdings(site)], held)
            entries += [(owner, site, number) for owner, number in held]
        shown = [(site, holder, number) for site in range(self.sites) for holder, number, _ in self.world.entries(site)]
        self.test.assertEqual(shown, sorted(entries))

    def end(self):
        self.check_safe()
        self.world.flush()
        self.check_safe()
        self.check_received()
        entries = sum(len(self.world.entries(site)) for site in range(self.sites))
        for _ in range(entries + 6):
            self.world.calm_round()
        self.check_safe()
        self.check_clean()


class WholeTest(unittest.TestCase):

    def run_course(self, course, steps):
        for number in range(steps):
            course.step()
            if number % 5 == 0:
                course.check_safe()
        course.end()

    def test_any_course_in_worlds_of_every_number_of_sites(self):
        for sites in range(1, 9):
            for seed in range(12):
                with self.subTest(sites=sites, seed=seed):
                    self.run_course(Course(self, sites, seed), (100, 300, 600)[seed % 3])

    def test_any_course_with_few_variables(self):
        # What is dropped at once is collected often.
        for sites in (2, 3, 4):
            for seed in range(30):
                with self.subTest(sites=sites, seed=seed):
                    self.run_course(Course(self, sites, seed, variables=1 + seed % 3), 300)

    def test_rings_go(self):
        for seed in range(60):
            with self.subTest(seed=seed):
                course = Course(self, 2 + seed % 7, seed)
                self.build_ring(course, (2, 3, 5, 9, 14)[seed % 5])
                course.end()
                self.assertEqual(course.world.live(), [])
                for site in range(course.sites):
                    self.assertEqual(course.world.objects(site), [])

    def test_rings_with_a_root_stay(self):
        for seed in range(30):
            with self.subTest(seed=seed):
                course = Course(self, 2 + seed % 7, seed)
                hops = (2, 3, 5, 9)[seed % 4]
                kept = self.build_ring(course, hops, keep=True)
                course.end()
                self.assertEqual(len(course.world.live()), hops)
                self.assertIn(kept, course.world.live())

    def build_ring(self, course, hops, *, keep=False):
        """Build a ring of this many objects, each at another site than the one before, and return its first one."""
        world, chance = course.world, course.chance
        course.used = 1
        site = first_site = chance.randrange(course.sites)
        first = last = course.make(site, 1)
        world.assign(site, 0, 7)
        course.variables[site][7] = first
        for turn in range(1, hops):
            others = [other for other in range(course.sites) if other != site]
            if turn == hops - 1 and course.sites > 2:
                others = [other for other in others if other != first_site]
            other = chance.choice(others)
            course.hand(site, 0, other)
            self.stir(course)
            course.clear(site, 0)
            course.take(other, 1)
            last = course.make(other, 1)
            world.write(other, 0, 0, 1)
            course.fields[last][0] = course.variables[other][1]
            course.clear(other, 1)
            site = other
        self.close_ring(course, site, first_site, last)
        if not keep:
            course.clear(first_site, 7)
        for _ in range(chance.randrange(12)):
            world.collect(chance.randrange(course.sites))
            world.send(chance.randrange(course.sites))
            while len(world.packets()) > 3:
                world.deliver(chance.randrange(len(world.packets())))
        return first

    def close_ring(self, course, site, first_site, last):
        """Let the first object, to which the last variable of its site refers, refer to the last one."""
        world = course.world
        if site != first_site:
            course.hand(site, 0, first_site)
            self.stir(course)
            course.take(first_site, 1)
        else:
            world.assign(site, 0, 1)
        world.write(first_site, 7, 0, 1)
        course.fields[course.variables[first_site][7]][0] = last
        course.clear(first_site, 1)
        course.clear(site, 0)

    def stir(self, course):
        for _ in range(course.chance.randrange(4)):
            course.world.collect(course.chance.randrange(course.sites))
        if course.chance.random() < 0.5:
            course.world.calm_round()
        course.world.flush()
        if course.chance.random() < 0.5:
            course.world.begin_wave()


if __name__ == "__main__":
    unittest.main()
