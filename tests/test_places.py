"""[61]: the fewest deeds behind which a thing has fewer, or more, things ahead of it."""

import random
import unittest

from ownmoment.errors import NotThere
from ownmoment.places import fewest_into, fewest_out
from tests import machine_model, model
from tests.machine_books import APART_FULL, COME, ELDER, KINDS, SORT, USE, one_row
from tests.samples import FRONT_MACHINE, LEAST_MACHINE, asked
from tests.test_leading import all_done, drawn, states_from, ways_by_all

LATER, EARLIER = "later", "earlier"
A, B, C, D, K, M = (0, 0), (0, 1), (0, 2), (0, 3), (1, 0), (1, 1)


def ahead_of(machine, row, figures, thing):
    return machine_model.row_of(machine, row, figures).index(thing)


class NotThereTest(unittest.TestCase):

    def test_ahead_of_all_else(self):
        figures = [(A, (1, (3,))), (B, (0, (2,)))]
        for thing in (C, K, (1, 9999), (0, 7)):
            for some in (figures, []):
                for many in (1, 2, 9):
                    with self.assertRaises(NotThere) as caught:
                        fewest_into(FRONT_MACHINE, some, 0, thing, many)
                    self.assertEqual(caught.exception.thing, thing)
                    for comers in (0, 3):
                        with self.assertRaises(NotThere) as caught:
                            fewest_out(FRONT_MACHINE, some, 0, thing, many, comers)
                        self.assertEqual(caught.exception.thing, thing)


class IntoTest(unittest.TestCase):

    def check(self, machine, figures, row, thing, many, number):
        found = asked(fewest_into, machine, figures, row, thing, many)
        if number is None:
            self.assertIsNone(found, (machine, figures, row, thing, many))
            return
        self.assertEqual(found[0], number, (machine, figures, row, thing, many))
        self.assertTrue(type(found) is tuple and type(found[1]) is list and len(found[1]) == number)
        self.assertTrue(all(deed > 0 for deed, _ in found[1]))
        behind = all_done(machine, figures, found[1])
        self.assertLess(ahead_of(machine, row, behind, thing), many)

    def test_by_hand(self):
        figures = [(A, (1, (5,))), (B, (1, (6,))), (C, (0, (2,))), (D, (0, (3,)))]
        # B, A, C, D: the deed brings one to the front, and nobody goes back.
        self.assertEqual(fewest_into(FRONT_MACHINE, figures, 0, D, 1), (1, [(1, D)]))
        self.assertEqual(fewest_into(FRONT_MACHINE, figures, 0, D, 3), (1, [(1, D)]))
        self.assertEqual(fewest_into(FRONT_MACHINE, figures, 0, D, 4), (0, []))
        self.assertEqual(fewest_into(FRONT_MACHINE, figures, 0, B, 1), (0, []))
        self.assertEqual([fewest_into(COME, [(A, (0, (1,))), (B, (0, (2,)))], 0, B, many) for many in (1, 2, 3)], [None, (0, []), (0, [])])
        # Behind the deed one is at the back: the others have to do it.
        back = one_row((0,), [(0, EARLIER, 0, 1)], (((0, (-1,)),),))
        figures = [(A, (0, (1,))), (B, (0, (2,))), (C, (0, (3,)))]
        self.check(back, figures, 0, C, 1, 2)
        self.check(back, figures, 0, C, 2, 1)
        self.check(back, figures, 0, C, 3, 0)
        # Ahead by asking before the other one does.
        self.check(ELDER, [(A, (0, (1,))), (B, (1, (2, 9)))], 0, B, 1, 1)
        self.check(ELDER, [(A, (0, (1,))), (B, (1, (2, 9)))], 0, A, 1, 0)
        self.check(ELDER, [(A, (1, (1, 4))), (B, (2, (3,)))], 0, A, 1, None)
        self.check(ELDER, [(A, (0, (3,))), (B, (1, (2, 9))), (C, (2, (7,)))], 0, A, 2, 2)

    def test_both_do_deeds_in_time(self):
        # At the front by a deed that is done first: the other one can do it only behind this one.
        machine = one_row((0,), [(1, LATER, 0, 1), (0, EARLIER, 0, 1)], (((1, (-1,)),), (None,)))
        self.check(machine, [(A, (1, (1,))), (B, (0, (2,)))], 0, B, 1, None)
        self.check(machine, [(A, (0, (1,))), (B, (0, (2,)))], 0, A, 1, 1)

    def test_beside_a_search(self):
        seen = set()
        for machine, figures, row in drawn(451, 150):
            movers = [x for x, _ in figures]
            fewest = {}
            for number, _, behind in states_from(machine, figures, movers):
                for at, x in enumerate(machine_model.row_of(machine, row, behind)):
                    for many in range(at + 1, 6):
                        fewest.setdefault((x, many), number)
            for x in movers:
                for many in range(1, 6):
                    self.check(machine, figures, row, x, many, fewest.get((x, many)))
                    seen.add(fewest.get((x, many)))
        self.assertTrue({None, 0, 1, 2, 3} <= seen, seen)

    def test_many_things(self):
        chance = random.Random(452)
        for machine in (USE, FRONT_MACHINE, SORT, ELDER, KINDS):
            run = [(0, (number % len(machine[0]), number)) for number in range(12)]
            figures = model.figures_behind(machine, run)
            for _ in range(12):
                x = chance.choice(figures)[0]
                for many in (1, 2, 5, 12, 13):
                    found = fewest_into(machine, figures, 0, x, many)
                    if found is not None:
                        self.assertEqual(len(found[1]), found[0])
                        self.assertLess(ahead_of(machine, 0, all_done(machine, figures, found[1]), x), many)
                self.assertEqual(fewest_into(machine, figures, 0, x, 13), (0, []))


class OutTest(unittest.TestCase):

    def check(self, machine, figures, row, thing, many, comers, number):
        found = asked(fewest_out, machine, figures, row, thing, many, comers)
        if number is None:
            self.assertIsNone(found, (machine, figures, row, thing, many, comers))
            return
        self.assertEqual(found[0], number, (machine, figures, row, thing, many, comers))
        self.check_run(machine, figures, row, thing, many, comers, found)

    def check_run(self, machine, figures, row, thing, many, comers, found):
        self.assertTrue(type(found) is tuple and type(found[1]) is list and len(found[1]) == found[0])
        there = dict(figures)
        came = [x for deed, x in found[1] if deed == 0]
        self.assertTrue(len(set(came)) == len(came) <= comers)
        self.assertFalse(set(came) & set(there))
        self.assertTrue(all(model.ok_thing(x) for x in came))
        self.assertTrue(all(x != thing and deed >= 0 for deed, x in found[1]))
        behind = all_done(machine, figures, found[1])
        self.assertGreaterEqual(ahead_of(machine, row, behind, thing), many)

    def test_of_the_document(self):
        figures = [(A, (1, (3,))), (B, (0, (2,)))]
        self.check(FRONT_MACHINE, figures, 0, A, 2, 5, 3)

    def test_by_hand(self):
        figures = [(A, (1, (3,))), (B, (0, (2,)))]
        self.check(FRONT_MACHINE, figures, 0, A, 1, 0, 1)
        self.check(FRONT_MACHINE, figures, 0, A, 2, 0, None)
        self.check(FRONT_MACHINE, figures, 0, A, 2, 1, 3)
        self.check(FRONT_MACHINE, figures, 0, A, 6, 5, 11)
        self.check(FRONT_MACHINE, figures, 0, A, 7, 5, None)
        self.check(FRONT_MACHINE, figures, 0, B, 1, 0, 0)
        self.check(FRONT_MACHINE, figures, 0, B, 2, 1, 2)
        # Who comes is behind, and stays there.
        self.check(COME, [(A, (0, (3,)))], 0, A, 1, 50, None)
        self.check(COME, [(A, (0, (3,))), (B, (0, (1,)))], 0, A, 1, 50, 0)
        # Comers stand foremost when they come.
        self.check(USE, [(A, (0, (3,))), (B, (0, (1,)))], 0, A, 2, 1, 2)
        self.check(USE, [(A, (0, (3,))), (B, (0, (1,)))], 0, A, 2, 2, 2)
        self.check(LEAST_MACHINE, [(A, (0, (3,)))], 0, A, 1, 4, None)

    def test_comers_of_the_kind_that_needs_least(self):
        # Kind 0 stands ahead by its coming, kind 1 behind for ever.
        figures = [(A, (0, (3,))), (K, (1, (1,)))]
        self.check(KINDS, figures, 0, K, 3, 2, 2)
        self.check(KINDS, figures, 0, A, 2, 2, 2)
        found = fewest_out(KINDS, figures, 0, A, 3, 3)
        self.assertEqual(sorted({x[0] for _, x in found[1]}), [0])
        # Things that are there need not come, but may need more than comers do.
        machine = one_row((0, 2), [(3, LATER, 0, 1), (2, LATER, 0, 1), (3, LATER, 0, 1), (0, LATER, 0, 1)],
                          (((1, (-1,)), None), ((1, (-1,)), (3, (-1,))), ((3, (-1,)), None), (None, None)))
        self.assertTrue(model.ok_machine(machine))
        self.check(machine, [(A, (1, (9,))), (B, (0, (1,)))], 0, A, 1, 3, 1)
        self.check(machine, [(A, (3, (9,))), (B, (0, (1,)))], 0, A, 1, 0, 3 - 1)
        self.check(machine, [(A, (3, (9,))), (B, (0, (1,)))], 0, A, 1, 3, 2)
        self.check(machine, [(A, (3, (9,))), (B, (0, (1,)))], 0, A, 2, 3, 4)

    def test_numbers_of_comers(self):
        # Just what is free, also where nearly all of a kind are taken.
        figures = [((0, number), (0, (number,))) for number in range(3)] + [((0, 5), (0, (7,)))]
        found = fewest_out(USE, figures, 0, (0, 5), 6, 9)
        self.check_run(USE, figures, 0, (0, 5), 6, 9, found)
        self.assertEqual(found[0], 6)
        figures = [((0, number), (0, (number,))) for number in range(10000) if number != 77]
        number, run = fewest_out(USE, figures, 0, (0, 9999), 9999, 1)
        self.assertEqual((number, sorted(run)), (9999, [(0, (0, 77))] + [(1, x) for x, _ in figures[:-1]]))
        for number in (9999, 9998, 0):
            figures = [((0, other), (0, (other,))) for other in range(10000) if other != number]
            self.assertIn((0, (0, number)), fewest_out(USE, figures, 0, (0, 500), 9999, 1)[1])
        figures = [((0, number), (0, (number,))) for number in range(10000) if number != 77]
        self.assertIsNone(fewest_out(USE, figures, 0, (0, 9999), 10000, 10 ** 30))
        self.assertEqual(fewest_out(USE, figures, 0, (0, 9999), 1, 0), (1, [(1, (0, 0))]))

    def test_beside_a_search(self):
        seen = set()
        for machine, figures, row in drawn(453, 120, 2):
            for x, _ in figures:
                movers = [y for y, _ in figures if y != x]
                for comers in (0, 1, 2):
                    # Comers of each kind that there can be.
                    fresh = [[(kind, number) for kind, number in zip(kinds, (100, 200))] for kinds in
                             {(0,) * comers, (len(machine[0]) - 1,) * comers, (0, len(machine[0]) - 1)[:comers]}]
                    fewest = {}
                    for some in fresh:
                        for number, _, behind in states_from(machine, figures, movers, some):
                            for many in range(1, ahead_of(machine, row, behind, x) + 1):
                                fewest[many] = min(number, fewest.get(many, number))
                    for many in range(1, 6):
                        self.check(machine, figures, row, x, many, comers, fewest.get(many))
                        seen.add((comers, fewest.get(many)))
        self.assertTrue({(0, None), (0, 0), (0, 1), (1, 1), (1, 2), (2, 3), (2, 2), (2, None)} <= seen, seen)

    def test_the_sum_of_what_each_one_needs(self):
        chance = random.Random(454)
        for machine in (USE, FRONT_MACHINE, SORT, ELDER, KINDS, APART_FULL):
            figures = model.figures_behind(machine, [(0, (number % len(machine[0]), number)) for number in range(7)])
            row = len(machine[1][0][0]) - 1
            for _ in range(10):
                x, figure = chance.choice(figures)
                rank, way, at = machine[1][figure[0]][0][row]

                def needs(other, coming):
                    found = [len(deeds) + coming for place, moment, deeds in ways_by_all(machine, other, row)
                             if place < rank or place == rank and (moment == -1 or moment > figure[1][at] if way == LATER else moment != -1 and moment < figure[1][at])]
                    return min(found, default=None)
                comers = chance.randrange(6)
                needed = [needs(other, 0) for y, other in figures if y != x]
                fresh = [needs((begin, (-1,)), 1) for begin in machine[0]] * comers
                needed = sorted([number for number in needed if number is not None] + sorted(number for number in fresh if number is not None)[:comers])
                for many in (1, 2, 4, 9, 14):
                    self.check(machine, figures, row, x, many, comers, sum(needed[:many]) if len(needed) >= many else None)


if __name__ == "__main__":
    unittest.main()
