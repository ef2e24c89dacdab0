"""[45]: serving [8]."""

import random
import unittest

from ownmoment.errors import Endless, NoWay
from ownmoment.serving import (
    endless_ring, is_endless_ring, is_house, least_alone, least_run, least_services, most_alone, most_comer, most_run, most_services)
from tests import model
from tests.machine_books import APART_FULL, ELDER, KINDS, one_row
from tests.samples import FRONT_MACHINE, LEAST_MACHINE, WIDE_MACHINE, any_values, lasting, variants
from tests.test_machines import LABELLED, ROWS, chance_machine, changed

LATER, EARLIER = "later", "earlier"
A, B, C, D, K, M = (0, 0), (0, 1), (0, 2), (0, 3), (1, 0), (1, 1)

# First come first: who is served goes to the back; deed 2 does nothing, deed 3 leaves for ever.
QUEUE = (one_row((0,), [(0, EARLIER, 0, 1), (1, EARLIER, 0, 1)], (((0, (-1,)), (0, (0,)), (1, (-1,))), (None, None, None))), 1, (0,))
# Last come first: who is served stands foremost again.
STACK = (one_row((0,), [(0, LATER, 0, 1)], (((0, (-1,)), (0, (-1,))),)), 1, (0,))
# Served again and again only where it begins anew by deed 2, and three times at the most: then it is behind.
THRICE = (one_row((0,), [(0, EARLIER, 0, 1), (1, EARLIER, 0, 1), (2, EARLIER, 0, 1), (3, EARLIER, 0, 1)],
                  (((1, (0,)), (0, (0,))), ((2, (0,)), (0, (0,))), ((3, (0,)), None), ((3, (0,)), None))), 1, (0, 1, 2, 3))
HOUSES = (QUEUE, STACK, THRICE)


def ok_house(value):
    if type(value) is not tuple or len(value) != 3 or not model.ok_machine(value[0]):
        return False
    machine, served, waits = value
    return (model.ok_int(served, 1, len(machine[2][0])) and type(waits) is tuple and len(waits) > 0
            and all(model.ok_int(point, 0, len(machine[1]) - 1) for point in waits) and list(waits) == sorted(set(waits))
            and all(machine[2][point][served - 1] is not None for point in waits))


class World:
    """What is there while some thing waits; moments are kept as they are."""

    def __init__(self, house, figures):
        self.machine, self.served, self.waits = house
        self.there = dict(figures)
        self.now = max((now for _, (_, live) in figures for now in live), default=-1) + 1

    def copied(self):
        other = World((self.machine, self.served, self.waits), [])
        other.there, other.now = dict(self.there), self.now
        return other

    def foremost(self):
        waiting = [x for x in self.there if self.there[x][0] in self.waits]
        for x in waiting:
            if all(y == x or model.is_ahead(self.machine, 0, self.there[x], self.there[y]) for y in waiting):
                return x
        return None

    def lets(self, deed, x):
        return self.machine[2][self.there[x][0]][deed - 1] is not None

    def do(self, deed, x):
        if deed == 0:
            self.there[x] = (self.machine[0][x[0]], (self.now,))
        else:
            point, times = self.there[x]
            behind, take = self.machine[2][point][deed - 1]
            self.there[x] = (behind, tuple(self.now if k < 0 else times[k] for k in take))
        self.now += 1
        return self

    def key(self):
        moments = sorted(now for _, live in self.there.values() for now in live)
        return tuple((x, point, tuple(moments.index(now) for now in live)) for x, (point, live) in sorted(self.there.items()))

    def steps(self, x):
        """The worlds behind each thing that can be done, and how many services of others this is."""
        found = []
        for y in sorted(self.there):
            if y != x:
                for deed in range(1, len(self.machine[2][0]) + 1):
                    if deed != self.served and self.lets(deed, y):
                        found.append((0, self.copied().do(deed, y)))
        first = self.foremost()
        if first != x:
            found.append((1, self.copied().do(self.served, first)))
        return found


def worlds_of(world, x):
    """All worlds, as indexes, with the steps (services, index) from each, and those where x is served next."""
    worlds, number = [world], {world.key(): 0}
    steps = []
    for at in range(10 ** 9):
        if at == len(worlds):
            break
        here = []
        for many, behind in worlds[at].steps(x):
            if behind.key() not in number:
                number[behind.key()] = len(worlds)
                worlds.append(behind)
            here.append((many, number[behind.key()]))
        steps.append(here)
        if len(worlds) > 4000:
            return None
    return steps, [one.foremost() == x for one in worlds]


def most_by_worlds(world, x):
    steps, _ = worlds_of(world, x)
    most = [0] * len(steps)
    grown = True
    while grown:
        grown = False
        for at, here in enumerate(steps):
            best = max((many + most[behind] for many, behind in here), default=0)
            if best > most[at]:
                most[at], grown = best, True
                # More services than worlds: one of them is come to again.
                if best > len(steps):
                    most[at] = 10 ** 9
        if most[0] >= 10 ** 9:
            return None
        if any(value >= 10 ** 9 for value in most):
            most = [min(value, 10 ** 9) for value in most]
            grown = any(most[at] < 10 ** 9 and any(most[behind] == 10 ** 9 for _, behind in here) for at, here in enumerate(steps)) or grown
    return most[0] if most[0] < 10 ** 9 else None


def least_by_worlds(world, x):
    steps, ends = worlds_of(world, x)
    least = [0 if end else None for end in ends]
    grown = True
    while grown:
        grown = False
        for at, here in enumerate(steps):
            known = [many + least[behind] for many, behind in here if least[behind] is not None]
            if known and (least[at] is None or min(known) < least[at]):
                least[at], grown = min(known), True
    return least[0]


def drawn_house(chance):
    while True:
        machine = chance_machine(chance)
        served = chance.randrange(1, len(machine[2][0]) + 1) if machine[2][0] else 0
        let = [point for point, move in enumerate(machine[2]) if served and move[served - 1] is not None]
        waits = tuple(point for point in let if chance.random() < .8)
        if waits:
            return (machine, served, waits)


def drawn_figures(chance, house, things):
    """Figures of these things, the first of which waits, with gaps between the moments."""
    machine, _, waits = house
    points = [chance.choice(waits)] + [chance.randrange(len(machine[1])) for _ in things[1:]]
    many = sum(machine[1][point][1] for point in points)
    moments = chance.sample(range(3, 5 * many + 5), many)
    figures = []
    for x, point in zip(things, points):
        live = machine[1][point][1]
        figures.append((x, (point, tuple(sorted(moments[:live])))))
        moments = moments[live:]
    return sorted(figures)


class IsHouseTest(unittest.TestCase):

    def test_by_hand(self):
        for house in HOUSES + ((FRONT_MACHINE, 1, (0, 1)), (FRONT_MACHINE, 1, (1,)), (WIDE_MACHINE, 2, (1, 2, 3)), (ROWS, 1, (0,)), (LABELLED, 1, (0, 1))):
            self.assertTrue(ok_house(house))
            self.assertIs(is_house(house), True)
        for house in ((FRONT_MACHINE, 1, ()), (FRONT_MACHINE, 0, (0,)), (FRONT_MACHINE, 2, (0,)), (FRONT_MACHINE, -1, (0,)), (FRONT_MACHINE, 1, (1, 0)),
                      (FRONT_MACHINE, 1, (0, 0)), (FRONT_MACHINE, 1, (2,)), (FRONT_MACHINE, 1, (-1,)), (FRONT_MACHINE, True, (0,)), (FRONT_MACHINE, 1, (False,)),
                      (FRONT_MACHINE, 1, (False, True)), (FRONT_MACHINE, 1, [0]), (FRONT_MACHINE, 1, 0), [FRONT_MACHINE, 1, (0,)], (FRONT_MACHINE, 1),
                      (FRONT_MACHINE, 1, (0,), ()), (WIDE_MACHINE, 2, (0, 1)), (WIDE_MACHINE, 2, (0,)), (LEAST_MACHINE, 1, (0,)), (LEAST_MACHINE, 0, (0,)),
                      (FRONT_MACHINE, "1", (0,)), (FRONT_MACHINE, 1, "0"), (None, 1, (0,))):
            self.assertFalse(ok_house(house))
            self.assertIs(is_house(house), False, house)

    def test_any_values(self):
        for value in any_values():
            for house in (value, (value, 1, (0,)), (FRONT_MACHINE, value, (0,)), (FRONT_MACHINE, 1, value), (FRONT_MACHINE, 1, (value,))):
                self.assertIs(is_house(house), ok_house(house), house)

    def test_one_place_otherwise(self):
        many = [0, 0]
        chance = random.Random(311)
        for house in HOUSES + tuple(drawn_house(chance) for _ in range(4)):
            before = lasting(house)
            for value in variants(house):
                good = ok_house(value)
                many[good] += 1
                self.assertIs(is_house(value), good, value)
            self.assertEqual(lasting(house), before)
        self.assertGreater(min(many), 100)


class AloneTest(unittest.TestCase):

    def test_by_hand(self):
        x = (0, (5,))
        # One that came before is served once, or not at all if it leaves; one that came later never.
        self.assertEqual([most_alone(QUEUE, x, (0, (now,))) for now in (4, 6)], [1, 0])
        self.assertEqual([least_alone(QUEUE, x, (0, (now,))) for now in (4, 6)], [0, 0])
        self.assertEqual(most_comer(QUEUE, x, 0), 0)
        queue = (changed(QUEUE[0], (2, 0, 2), None), 1, (0,))
        self.assertEqual([least_alone(queue, x, (0, (now,))) for now in (4, 6)], [1, 0])
        # Ahead for ever.
        self.assertEqual([most_alone(STACK, x, (0, (now,))) for now in (4, 6)], [None, None])
        self.assertEqual([least_alone(STACK, x, (0, (now,))) for now in (4, 6)], [0, None])
        self.assertIsNone(most_comer(STACK, x, 0))

    def test_thrice(self):
        # Those further ahead are served until they are behind; deed 2 at the point 1 leads back.
        x = (2, (5,))
        self.assertEqual([most_alone(THRICE, x, figure) for figure in ((2, (4,)), (2, (6,)), (3, (4,)))], [1, 0, 0])
        self.assertEqual([most_alone(THRICE, x, (point, (4,))) for point in (0, 1)], [None, None])
        once = (changed(THRICE[0], (2, 1, 1), None), 1, (0, 1, 2, 3))
        self.assertEqual([most_alone(once, x, (point, (now,))) for point in range(4) for now in (4, 6)], [3, 2, 2, 1, 1, 0, 0, 0])
        self.assertEqual([least_alone(once, x, (point, (now,))) for point in range(4) for now in (4, 6)], [3, 2, 2, 1, 1, 0, 0, 0])
        self.assertEqual([most_comer(once, (point, (5,)), 0) for point in range(4)], [0, 1, 2, 3])

    def test_a_moment_that_counts_later(self):
        # By the moment of asking: who asked before stands ahead once it is put so.
        house = (changed(ELDER, (2, 2, 0), (2, (-1,))), 1, (0, 2))
        x = (2, (10,))
        self.assertEqual([most_alone(house, x, (1, (2, now))) for now in (9, 11)], [1, 0])
        self.assertEqual(most_alone(house, x, (0, (3,))), 0)
        self.assertEqual([least_alone(house, x, (1, (2, now))) for now in (9, 11)], [0, 0])
        # It waits in the place of the one that it is: the first row alone counts.
        house = (APART_FULL, 1, (0, 1, 2, 3, 4))
        self.assertIsNone(most_alone(house, (1, (3, 8)), (1, (2, 9))))
        self.assertIsNone(most_alone(house, (0, (3,)), (0, (2,))))

    def test_as_the_definition_says(self):
        chance = random.Random(312)
        seen = {}
        for _ in range(400):
            house = drawn_house(chance)
            figures = drawn_figures(chance, house, [(0, 0), (0, 1)])
            before = lasting((house, figures))
            x, y = figures[0][1], figures[1][1]
            world = World(house, figures)
            most, least = most_by_worlds(world, (0, 0)), least_by_worlds(world, (0, 0))
            self.assertEqual(most_alone(house, x, y), most, (house, x, y))
            self.assertEqual(least_alone(house, x, y), least, (house, x, y))
            for kind in range(len(house[0][0])):
                comer = World(house, [((0, 0), x)]).do(0, (kind, 1))
                self.assertEqual(most_comer(house, x, kind), most_by_worlds(comer, (0, 0)))
            self.assertEqual(lasting((house, figures)), before)
            seen[most, least] = seen.get((most, least), 0) + 1
        self.assertTrue({(None, None), (None, 0), (0, 0), (1, 0), (1, 1), (2, 0)} <= set(seen), seen)


class ServicesTest(unittest.TestCase):

    def played(self, house, figures, thing, run, comers):
        """How many services others get by the run; each tuple is looked at."""
        world = World(house, figures)
        fresh = []
        for kind, many in enumerate(comers):
            fresh += [(kind, number) for number in range(len(figures) + many) if (kind, number) not in dict(figures)][:many]
        many = 0
        for deed, y in run:
            self.assertNotEqual(y, thing)
            if deed == 0:
                self.assertIn(y, fresh)
                self.assertNotIn(y, world.there)
            else:
                self.assertGreater(deed, 0)
                self.assertTrue(world.lets(deed, y))
            if deed == house[1]:
                self.assertEqual(world.foremost(), y)
                many += 1
            world.do(deed, y)
        return many, world

    def check(self, house, figures, thing, comers, by_worlds):
        before = lasting((house, figures, comers))
        most, least = most_services(house, figures, thing, comers), least_services(house, figures, thing)
        x = dict(figures)[thing]
        others = [figure for y, figure in figures if y != thing]
        alone = [most_alone(house, x, y) for y in others] + [most_comer(house, x, kind) for kind, many in enumerate(comers) for _ in range(many)]
        self.assertEqual(most, None if None in alone else sum(alone))
        alone = [least_alone(house, x, y) for y in others]
        self.assertEqual(least, None if None in alone else sum(alone))
        if by_worlds:
            world = World(house, figures)
            if worlds_of(world, thing) is not None:
                self.assertEqual(least, least_by_worlds(world, thing))
                self.assertEqual(most_services(house, figures, thing, (0,) * len(house[0][0])), most_by_worlds(world, thing))
        if most is None:
            self.assertRaises(Endless, most_run, house, figures, thing, comers)
        else:
            run = most_run(house, figures, thing, comers)
            self.assertIs(type(run), list)
            self.assertEqual(self.played(house, figures, thing, run, comers)[0], most)
            run.clear()
            self.assertEqual(len(most_run(house, figures, thing, comers)) > 0, most > 0 or sum(comers) > 0)
        if least is None:
            self.assertRaises(NoWay, least_run, house, figures, thing)
        else:
            run = least_run(house, figures, thing)
            self.assertIs(type(run), list)
            self.assertEqual(run[-1], (house[1], thing))
            many, world = self.played(house, figures, thing, run[:-1], ())
            self.assertEqual((many, world.foremost()), (least, thing))
        self.assertEqual(lasting((house, figures, comers)), before)
        return most, least

    def test_by_hand(self):
        figures = [(A, (0, (7,))), (B, (0, (3,))), (C, (0, (5,))), (D, (0, (9,)))]
        self.assertEqual(self.check(QUEUE, figures, A, (4,), True), (2, 0))
        self.assertEqual(most_run(QUEUE, figures, A, (0,)), [(1, B), (1, C)])
        queue = (changed(QUEUE[0], (2, 0, 2), None), 1, (0,))
        self.assertEqual(self.check(queue, figures, A, (0,), True), (2, 2))
        self.assertEqual(least_run(queue, figures, A), [(1, B), (1, C), (1, A)])
        self.assertEqual(self.check(STACK, figures, A, (0,), False), (None, None))
        self.assertEqual(self.check(STACK, figures, D, (0,), False), (None, 0))
        self.assertEqual(self.check(STACK, figures[:1], A, (0,), False), (0, 0))
        self.assertEqual(self.check(STACK, figures[:1], A, (1,), False), (None, 0))

    def test_comers(self):
        house = (changed(THRICE[0], (2, 1, 1), None), 1, (0, 1, 2, 3))
        figures = [(A, (2, (7,))), (B, (1, (2,))), ((0, 3), (3, (1,)))]
        self.assertEqual(most_services(house, figures, A, (10 ** 39,)), 2 * 10 ** 39 + 2)
        self.assertEqual(self.check(house, figures, A, (5,), True), (12, 2))
        run = most_run(house, figures, A, (3,))
        # The least numbers that are not taken, by whatever thing.
        self.assertEqual({x for _, x in run}, {B, (0, 2), (0, 4), (0, 5)})
        self.assertEqual(self.check(house, figures, A, (100,), False), (202, 2))
        # Two kinds, one of which is served for ever.
        house = (KINDS, 1, (0, 1))
        figures = [(K, (1, (4,))), (M, (1, (3,)))]
        self.assertEqual(self.check(house, figures, K, (0, 7), True), (1, 1))
        self.assertEqual(self.check(house, figures, K, (1, 0), True), (None, 1))
        self.assertEqual(most_services(house, figures, K, (0, 0)), 1)
        self.assertIsNone(most_services(house, figures, K, (2, 10 ** 30)))

    def test_drawn_ones(self):
        chance = random.Random(313)
        seen = []
        for at in range(260):
            house = drawn_house(chance)
            kinds = len(house[0][0])
            things = [(0, 4), (kinds - 1, 1), (0, 2), (0, 0), (kinds - 1, 5)][:chance.randrange(2, 6)]
            figures = drawn_figures(chance, house, things)
            small = len(things) <= 3 and sum(len(live) for _, (_, live) in figures) <= 4 and at % 3 == 0
            seen.append(self.check(house, figures, (0, 4), tuple(chance.randrange(3) for _ in range(kinds)), small))
        self.assertGreater(len([1 for most, _ in seen if most and most > 2]), 10)
        self.assertGreater(len([1 for _, least in seen if least and least > 1]), 10)
        self.assertTrue({None} <= {most for most, _ in seen} and {None} <= {least for _, least in seen})

    def test_company_as_the_definition_says(self):
        # Three things of a machine with few points, by all worlds.
        chance = random.Random(314)
        many = 0
        while many < 60:
            house = drawn_house(chance)
            if len(house[0][1]) > 3 or max(live for _, live, _ in house[0][1]) > 2 or len(house[0][2][0]) > 3:
                continue
            self.check(house, drawn_figures(chance, house, [A, B, C]), A, (1,) * len(house[0][0]), True)
            many += 1


class RingTest(unittest.TestCase):

    def ok_ring(self, house, x, y, value):
        """By the definition, the ring gone through several times."""
        if type(value) is not tuple or len(value) != 2:
            return False
        many = len(house[0][2][0])
        if not all(type(part) is list and all(model.ok_int(deed, 1, many) for deed in part) for part in value):
            return False
        way, ring = value
        if house[1] not in ring:
            return False
        world = World(house, [(A, x), (B, y)])
        moment = x[1][house[0][1][x[0]][0][0][2]]
        shown = []
        for part in (way, ring, ring, ring):
            for deed in part:
                if not world.lets(deed, B) or deed == house[1] and world.foremost() != B:
                    return False
                world.do(deed, B)
            shown.append((world.there[B][0], [now > moment for now in world.there[B][1]]))
        return shown[0] == shown[1]

    def test_by_hand(self):
        x, y = (0, (5,)), (0, (6,))
        self.assertEqual(endless_ring(STACK, x, y), ([], [1]))
        way, ring = endless_ring(STACK, x, (0, (4,)))
        self.assertEqual((way, ring), ([2, 1], [1]))
        self.assertIsNone(endless_ring(QUEUE, x, y))
        for value, good in ((([], [1]), True), (([1, 2], [2, 1, 1]), True), (([], [2]), False), (([], []), False), (([1], []), False), (([0], [1]), False),
                            (([3], [1]), False), (([-1], [1]), False), (([True], [1]), False), (([], [True]), False), (([], (1,)), False), (([1]), False),
                            ([[], [1]], False), (([], [1], []), False), (([], ["1"]), False), ((None, [1]), False)):
            self.assertIs(is_endless_ring(STACK, x, y, value), good, value)
        # One that is behind has to come ahead first, and behind the first round its moment is another one.
        for value, good in ((([2], [1]), True), (([], [2, 1]), False), (([], [1]), False), (([2, 2, 1], [2, 1]), True)):
            self.assertIs(is_endless_ring(STACK, x, (0, (4,)), value), good, value)
        self.assertIs(is_endless_ring(QUEUE, x, (0, (4,)), ([], [1])), False)
        self.assertIs(is_endless_ring(QUEUE, x, (0, (4,)), ([1], [2])), False)

    def test_any_values(self):
        x, y = (0, (5,)), (0, (6,))
        for value in any_values():
            self.assertIs(is_endless_ring(STACK, x, y, value), False)
            self.assertIs(is_endless_ring(STACK, x, y, ([], value)), self.ok_ring(STACK, x, y, ([], value)))
            self.assertIs(is_endless_ring(STACK, x, y, (value, [1])), self.ok_ring(STACK, x, y, (value, [1])))

    def test_as_the_definition_says(self):
        chance = random.Random(315)
        many = [0, 0]
        rings = [0, 0]
        for _ in range(300):
            house = drawn_house(chance)
            figures = drawn_figures(chance, house, [A, B])
            before = lasting((house, figures))
            x, y = figures[0][1], figures[1][1]
            found = endless_ring(house, x, y)
            many[found is None] += 1
            self.assertIs(found is None, most_alone(house, x, y) is not None)
            deeds = range(1, len(house[0][2][0]) + 1)
            values = [([chance.choice(deeds) for _ in range(chance.randrange(3))], [chance.choice(deeds) for _ in range(chance.randrange(4))]) for _ in range(8)]
            if found is not None:
                self.assertTrue(self.ok_ring(house, x, y, found), (house, x, y, found))
                self.assertIs(is_endless_ring(house, x, y, found), True)
                way, ring = found
                values += [(way + ring, ring + ring), (way, ring + [house[1]]), (way[1:], ring), (way, ring[1:] + ring[:1]), (way + ring[:1], ring[1:] + ring[:1])]
                found[0].append(99)
                self.assertEqual(endless_ring(house, x, y), (way[:-1], ring))
            for value in values:
                good = self.ok_ring(house, x, y, value)
                rings[good] += 1
                self.assertIs(is_endless_ring(house, x, y, value), good, (house, x, y, value))
            self.assertEqual(lasting((house, figures)), before)
        self.assertGreater(min(many), 50)
        self.assertGreater(min(rings), 100)


class OrderOfCallsTest(unittest.TestCase):

    def test_whatever_was_asked_between(self):
        figures = [(A, (0, (7,))), (B, (0, (3,))), (C, (0, (5,)))]
        first = (most_run(QUEUE, figures, A, (2,)), least_run(QUEUE, figures, A))
        self.assertRaises(Endless, most_run, STACK, figures, A, (1,))
        endless_ring(STACK, (0, (1,)), (0, (2,)))
        self.assertEqual((most_run(QUEUE, figures, A, (2,)), least_run(QUEUE, figures, A)), first)


if __name__ == "__main__":
    unittest.main()
