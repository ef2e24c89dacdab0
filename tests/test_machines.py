"""[25]: machines [6]."""

import itertools
import random
import unittest

from ownmoment.errors import NoIndex
from ownmoment.machines import (
    figures_of, first_barred, is_ahead_by, is_machine, led_on, machine_deeds, machine_kinds, machine_rows, point_behind, row_by,
    row_machine)
from tests import model
from tests.samples import FRONT_MACHINE, LEAST_MACHINE, MACHINES, WIDE_MACHINE, any_values, lasting, variants

A, B, C, K, M = (0, 0), (0, 1), (0, 2), (1, 0), (1, 1)

# One row with labels, and two rows with one kind.
LABELLED = ((0, 1), ((((0, "later", 0),), 1, (0, 7)), (((0, "later", 0),), 1, (1, 0))), (((0, (0,)),), ((1, (-1,)),)))
ROWS = ((1,), ((((0, "later", 1), (1, "earlier", 0)), 2, ()), (((1, "earlier", 0), (1, "earlier", 0)), 1, ())), (((1, (0,)), None), ((0, (0, -1)), (1, (-1,)))))
ALL = MACHINES + (LABELLED, ROWS)


def changed(machine, at, value):
    """The machine with the value at the place at, a tuple of indexes."""
    if not at:
        return value
    return machine[:at[0]] + (changed(machine[at[0]], at[1:], value),) + machine[at[0] + 1:]


def chance_machine(chance):
    """A machine by form."""
    kinds, rows, many, entries = chance.randrange(1, 3), chance.randrange(1, 3), chance.randrange(1, 6), chance.randrange(6)
    lives = [1 if point < kinds else chance.randrange(1, 4) for point in range(max(many, kinds))]
    ways = [[chance.choice(("later", "earlier")) for _ in range(3)] for _ in range(rows)]
    points = []
    for live in lives:
        ranks = [chance.randrange(3) for _ in range(rows)]
        points.append((tuple((rank, ways[row][rank], chance.randrange(live)) for row, rank in enumerate(ranks)), live, ()))
    moves = []
    for live in lives:
        move = []
        for _ in range(entries):
            behind = chance.randrange(len(lives))
            pool = list(range(live)) + [9]
            if len(pool) < lives[behind] or chance.random() < .2:
                move.append(None)
            else:
                move.append((behind, tuple(-1 if k == 9 else k for k in sorted(chance.sample(pool, lives[behind])))))
        moves.append(tuple(move))
    return (tuple(range(kinds)), tuple(points), tuple(moves))


def chance_tuples(chance, machine, length, most=4):
    deeds = [0, 0, *range(1, len(machine[2][0]) + 1), *range(1, len(machine[2][0]) + 1), -1]
    things = [(kind, number) for kind in range(len(machine[0])) for number in range(most)]
    return [(chance.choice(deeds), chance.choice(things)) for _ in range(length)]


def chance_run(chance, machine, length):
    """A run of the machine, of at most so many tuples."""
    run = []
    for one in chance_tuples(chance, machine, 6 * length):
        if len(run) < length and type(model.figures_behind(machine, run + [one])) is list:
            run.append(one)
    return run


class IsMachineTest(unittest.TestCase):

    def check(self, value, good):
        self.assertIs(model.ok_machine(value), good, value)
        self.assertIs(is_machine(value), good, value)

    def test_good_ones(self):
        for machine in ALL:
            before = lasting(machine)
            self.check(machine, True)
            self.assertEqual(lasting(machine), before)
        chance = random.Random(91)
        for _ in range(300):
            self.check(chance_machine(chance), True)

    def test_any_values(self):
        for value in any_values():
            self.check(value, False)
            for at in ((0,), (1,), (2,), (0, 0), (1, 0), (1, 1, 0), (1, 1, 0, 0), (1, 0, 0, 0, 0), (1, 0, 0, 0, 1), (1, 0, 0, 0, 2), (1, 0, 1),
                       (1, 0, 2), (2, 0), (2, 1, 0), (2, 0, 0, 0), (2, 0, 0, 1), (2, 0, 0, 1, 0)):
                self.check_like_the_model(changed(FRONT_MACHINE, at, value))

    def check_like_the_model(self, value):
        self.assertIs(is_machine(value), model.ok_machine(value), value)

    def test_one_place_otherwise(self):
        for machine in ALL:
            many = [0, 0]
            for value in variants(machine):
                good = model.ok_machine(value)
                many[good] += 1
                self.assertIs(is_machine(value), good, value)
            self.assertGreater(many[False], many[True])
        chance = random.Random(92)
        for _ in range(12):
            for value in variants(chance_machine(chance)):
                self.check_like_the_model(value)

    def test_unlike_ways_of_a_class(self):
        self.check(changed(FRONT_MACHINE, (1, 1, 0, 0, 0), 1), False)
        self.check(changed(FRONT_MACHINE, (1, 1, 0, 0), (1, "earlier", 0)), True)
        for way in ("Later", "late", "", "front", "earlier ", None, 0, ("later",), ["later"], True):
            self.check(changed(FRONT_MACHINE, (1, 1, 0, 0, 1), way), False)
        # The same rank may have another way in the other row.
        self.check(changed(ROWS, (1, 0, 0, 0), (1, "later", 1)), False)
        self.check(changed(ROWS, (1, 0, 0, 1), (1, "later", 0)), False)
        self.check(changed(ROWS, (1, 0, 0, 1), (0, "earlier", 0)), True)

    def test_begins(self):
        # A beginning has one live moment.
        self.check(changed(ROWS, (0,), (0,)), False)
        self.check(changed(WIDE_MACHINE, (0,), (0, 1)), False)
        self.check(changed(WIDE_MACHINE, (0,), (0,)), False)
        self.check(changed(FRONT_MACHINE, (0,), (1,)), True)
        self.check(changed(FRONT_MACHINE, (0,), (0, 0)), True)
        for begins in ((), (0, 0, 0), (2,), (-1,), [0], (False,), (None,), 0, ((0,),)):
            self.check(changed(FRONT_MACHINE, (0,), begins), False)

    def test_points(self):
        self.check(((0,), (), ()), False)
        self.check(((), (), ()), False)
        for live in (0, 4, -1, True, None, "1", (1,)):
            self.check(changed(FRONT_MACHINE, (1, 0, 1), live), False)
        self.check(changed(LEAST_MACHINE, (1, 0, 1), 2), False)
        for at in (-1, 1, False, None, "0"):
            self.check(changed(FRONT_MACHINE, (1, 0, 0, 0, 2), at), False)
        for rank in (-1, True, None, "0", (0,)):
            self.check(changed(FRONT_MACHINE, (1, 0, 0, 0, 0), rank), False)
        for rank in (0, 5, 10 ** 39):
            self.check(changed(LEAST_MACHINE, (1, 0, 0, 0, 0), rank), True)
        stand = (0, "earlier", 0)
        for stands, good in (((stand,), True), ((stand, stand), True), ((), False), ((stand,) * 3, False), ([stand], False), (stand, False)):
            self.check(changed(LEAST_MACHINE, (1, 0, 0), stands), good)
        # Equally many rows at all points.
        self.check(changed(FRONT_MACHINE, (1, 1, 0), ((0, "later", 0), (0, "later", 0))), False)
        self.check(changed(ROWS, (1, 0, 0), ((0, "later", 1),)), False)
        self.check(changed(WIDE_MACHINE, (1, 3, 0), ()), False)

    def test_moves(self):
        for many in range(8):
            entry = (0, (-1,))
            self.check(changed(LEAST_MACHINE, (2, 0), (entry,) * many), many <= 5)
            self.check(changed(LEAST_MACHINE, (2, 0), (None,) * many), many <= 5)
        self.check(changed(FRONT_MACHINE, (2, 0), ()), False)
        self.check(changed(FRONT_MACHINE, (2, 1), ()), False)
        self.check(changed(FRONT_MACHINE, (2, 1), (None, None)), False)
        self.check(changed(FRONT_MACHINE, (2,), ((None,),)), False)
        self.check(changed(FRONT_MACHINE, (2,), ((None,),) * 3), False)
        self.check(changed(FRONT_MACHINE, (2,), ((), ())), True)
        self.check(changed(FRONT_MACHINE, (2,), ((None,), (None,))), True)
        for behind in (2, -1, True, None, "0", (0,)):
            self.check(changed(FRONT_MACHINE, (2, 0, 0, 0), behind), False)
        self.check(changed(FRONT_MACHINE, (2, 0, 0, 0), 0), True)
        for entry in (1, (1,), (1, (-1,), 0), [1, (-1,)], (1, [-1]), (1, -1), (), False, 0):
            self.check(changed(FRONT_MACHINE, (2, 0, 0), entry), False)

    def test_take(self):
        for take, good in (((0, 1, -1), True), ((0, 1, 2), True), ((1, 2, -1), True), ((0, 2, -1), True), ((0, 1), False), ((0, 1, 2, -1), False),
                           ((), False), ((0, 0, -1), False), ((1, 0, -1), False), ((2, 1, 0), False), ((0, -1, 1), False), ((-1, 0, 1), False),
                           ((0, -1, -1), False), ((-1, -1, -1), False), ((0, 1, 3), False), ((0, 1, -2), False), ((0, True, -1), False),
                           ((False, 1, 2), False), ([0, 1, -1], False), ((0, 1, None), False), ((2, 2, -1), False), ((-1, 1, 2), False)):
            self.check(changed(WIDE_MACHINE, (2, 2, 0, 1), take), good)
        # From the point 1, with two live moments, there is no third one.
        self.check(changed(WIDE_MACHINE, (2, 1, 0, 1), (0, 1, 2)), False)
        for take, good in (((-1,), True), ((0,), True), ((1,), False), ((-1, 0), False), ((0, -1), False), ((), False)):
            self.check(changed(WIDE_MACHINE, (2, 3, 1, 1), take), good)

    def test_labels(self):
        # Of some points alone.
        self.check(changed(LABELLED, (1, 0, 2), ()), False)
        self.check(changed(LABELLED, (1, 1, 2), ()), False)
        self.check(changed(FRONT_MACHINE, (1, 0, 2), (0, 0)), False)
        both = changed(changed(FRONT_MACHINE, (1, 0, 2), (0, 3)), (1, 1, 2), (0, 10 ** 39))
        self.check(both, True)
        for label in ((1, 0), (2, 0), (-1, 0), (0, -1), (0, True), (False, 0), (0,), (0, 0, 0), [0, 0], None, 0, (0, "0"), ((0, 0),)):
            self.check(changed(both, (1, 0, 2), label), False)
        # At a point to which nothing leads, the label is looked at as well.
        apart = changed(changed(both, (2,), ((None,), (None,))), (0,), (0,))
        for label, good in (((0, 0), True), ((0, 9), True), ((1, 0), False), ((-1, 0), False), ((0, -1), False), ((True, 0), False), ((), False)):
            self.check(changed(apart, (1, 1, 2), label), good)
        # Another kind than begins or moves lead to.
        self.check(changed(LABELLED, (0,), (1, 0)), False)
        self.check(changed(LABELLED, (0,), (0, 0)), False)
        self.check(changed(LABELLED, (1, 0, 2), (1, 7)), False)
        self.check(changed(LABELLED, (2, 0, 0, 0), 1), False)
        self.check(changed(LABELLED, (2, 0, 0), None), True)
        self.check(changed(WIDE_MACHINE, (1, 2, 2), (1, 0)), False)
        self.check(changed(WIDE_MACHINE, (2, 3, 1), (0, (-1,))), False)
        self.check(changed(LABELLED, (0,), (0,)), False)

    def test_parts(self):
        for machine in ALL:
            for at in range(3):
                self.check(changed(machine, (at,), list(machine[at])), False)
                self.check(machine[:at] + machine[at + 1:], False)
            self.check(machine + ((),), False)
            self.check(list(machine), False)


class PartsTest(unittest.TestCase):

    def test_how_many(self):
        self.assertEqual([machine_kinds(machine) for machine in ALL], [1, 2, 1, 2, 1])
        self.assertEqual([machine_deeds(machine) for machine in ALL], [2, 4, 1, 2, 3])
        self.assertEqual([machine_rows(machine) for machine in ALL], [1, 2, 1, 1, 2])

    def test_row_machine(self):
        for machine in ALL:
            before = lasting(machine)
            for row in range(machine_rows(machine)):
                made = row_machine(machine, row)
                self.assertIs(is_machine(made), True)
                self.assertEqual((made[0], made[2]), (machine[0], machine[2]))
                self.assertEqual(made[1], tuple(((stands[row],), live, ()) for stands, live, _ in machine[1]))
            self.assertEqual(lasting(machine), before)
        self.assertEqual(row_machine(FRONT_MACHINE, 0), FRONT_MACHINE)
        self.assertEqual(row_machine(ROWS, 1), ((1,), ((((1, "earlier", 0),), 2, ()), (((1, "earlier", 0),), 1, ())), ROWS[2]))
        self.assertEqual(row_machine(LABELLED, 0)[1], ((((0, "later", 0),), 1, ()), (((0, "later", 0),), 1, ())))


class RunsTest(unittest.TestCase):

    def test_first_barred_by_hand(self):
        for run, index in (([], None), ([(0, A)], None), ([(0, A), (0, A)], 1), ([(1, A)], 0), ([(-1, A)], 0), ([(0, A), (1, A), (-1, A), (1, A)], 3),
                           ([(0, A), (-1, A), (-1, A)], 2), ([(0, A), (-1, A), (0, A), (1, A), (1, A)], None), ([(0, A), (0, B), (1, C), (1, A)], 2)):
            self.assertEqual(first_barred(FRONT_MACHINE, run), index)
        for run, index in (([(0, A), (2, A)], 1), ([(0, A), (1, A), (3, A)], 2), ([(0, K), (1, K)], 1), ([(0, K), (2, K), (3, K), (1, K)], 3),
                           ([(0, A), (1, A), (2, A), (2, A)], 3), ([(0, A), (1, A), (1, A), (2, A), (2, A), (3, A)], None)):
            self.assertEqual(first_barred(WIDE_MACHINE, run), index)

    def test_figures_by_hand(self):
        self.assertEqual(figures_of(FRONT_MACHINE, []), [])
        self.assertEqual(figures_of(FRONT_MACHINE, [(0, B), (0, A), (1, B), (0, C), (-1, A), (1, B)]), [(B, (1, (5,))), (C, (0, (3,)))])
        self.assertEqual(figures_of(WIDE_MACHINE, [(0, A), (1, A), (0, K), (1, A), (1, A), (3, K), (2, K)]), [(A, (2, (0, 3, 4))), (K, (3, (6,)))])
        self.assertEqual(figures_of(WIDE_MACHINE, [(0, A), (1, A), (0, K), (1, A), (1, A), (2, A)]), [(A, (1, (3, 4))), (K, (3, (2,)))])
        self.assertEqual(figures_of(WIDE_MACHINE, [(0, A), (3, A), (1, A), (2, A), (0, B)]), [(A, (0, (2,))), (B, (0, (4,)))])
        # A thing that comes again is a new one.
        self.assertEqual(figures_of(WIDE_MACHINE, [(0, A), (1, A), (-1, A), (0, B), (0, A)]), [(A, (0, (4,))), (B, (0, (3,)))])

    def test_as_the_model_has_it(self):
        chance = random.Random(93)
        for machine in ALL + tuple(chance_machine(chance) for _ in range(150)):
            run = chance_run(chance, machine, 20)
            before = lasting(run)
            self.assertIsNone(first_barred(machine, run))
            self.assertEqual(figures_of(machine, run), model.figures_behind(machine, run))
            for length in (1, 3, 6, 12):
                tuples = chance_tuples(chance, machine, length)
                found = model.figures_behind(machine, tuples)
                self.assertEqual(first_barred(machine, tuples), found if type(found) is int else None)
                tuples = run[:8] + tuples
                found = model.figures_behind(machine, tuples)
                self.assertEqual(first_barred(machine, tuples), found if type(found) is int else None)
            self.assertEqual(lasting(run), before)

    def test_point_behind(self):
        self.assertEqual(point_behind(FRONT_MACHINE, 0, ()), 0)
        self.assertEqual(point_behind(FRONT_MACHINE, 0, (1,)), 1)
        self.assertEqual(point_behind(FRONT_MACHINE, 0, (1, 1, 1)), 1)
        self.assertEqual([point_behind(WIDE_MACHINE, kind, ()) for kind in (0, 1)], [0, 3])
        self.assertEqual(point_behind(WIDE_MACHINE, 0, (1, 1)), 2)
        self.assertEqual(point_behind(WIDE_MACHINE, 0, (1, 1, 2, 2)), 0)
        self.assertIsNone(point_behind(WIDE_MACHINE, 0, (2,)))
        self.assertIsNone(point_behind(WIDE_MACHINE, 0, (1, 3, 1)))
        self.assertIsNone(point_behind(WIDE_MACHINE, 1, (2, 1)))
        self.assertEqual(point_behind(WIDE_MACHINE, 1, (2, 3, 2)), 3)
        self.assertEqual(point_behind(LEAST_MACHINE, 0, ()), 0)
        chance = random.Random(94)
        for machine in ALL + tuple(chance_machine(chance) for _ in range(40)):
            for kind in range(len(machine[0])):
                for size in range(4):
                    for past in itertools.product(range(1, len(machine[2][0]) + 1), repeat=size):
                        found = model.figure_behind(machine, kind, [(0, 0)] + [(deed, k + 1) for k, deed in enumerate(past)])
                        self.assertEqual(point_behind(machine, kind, past), None if found is None else found[0])


class LedOnTest(unittest.TestCase):

    def test_by_hand(self):
        figures = [(A, (1, (3,))), (B, (0, (7,)))]
        before = lasting(figures)
        self.assertEqual(led_on(FRONT_MACHINE, figures, [], 8), figures)
        self.assertEqual(led_on(FRONT_MACHINE, figures, [(1, B)], 8), [(A, (1, (3,))), (B, (1, (8,)))])
        self.assertEqual(led_on(FRONT_MACHINE, figures, [(1, B), (-1, A), (0, C), (1, B), (0, A)], 100),
                         [(A, (0, (104,))), (B, (1, (103,))), (C, (0, (102,)))])
        self.assertEqual(led_on(WIDE_MACHINE, [(A, (2, (2, 5, 9)))], [(1, A), (2, A)], 50), [(A, (1, (9, 50)))])
        self.assertEqual(led_on(FRONT_MACHINE, [], [(0, A)], 10 ** 30), [(A, (0, (10 ** 30,)))])
        self.assertEqual(lasting(figures), before)

    def test_what_is_not_let(self):
        figures = [(A, (0, (3,))), (K, (3, (7,)))]
        before = lasting(figures)
        for run, index in (([(2, A)], 0), ([(0, A)], 0), ([(1, B)], 0), ([(-1, B)], 0), ([(1, A), (2, K), (1, K)], 2), ([(-1, A), (1, A)], 1),
                           ([(0, B), (-1, B), (-1, B), (2, A)], 2), ([(3, K), (0, K)], 1)):
            with self.assertRaises(NoIndex) as caught:
                led_on(WIDE_MACHINE, figures, run, 20)
            self.assertEqual((caught.exception.index, type(caught.exception.index)), (index, int))
            self.assertEqual(lasting(figures), before)

    def test_in_two_parts(self):
        chance = random.Random(95)
        for machine in ALL + tuple(chance_machine(chance) for _ in range(100)):
            run = chance_run(chance, machine, 20)
            whole = model.figures_behind(machine, run)
            for cut in range(0, len(run) + 1, 4):
                self.assertEqual(led_on(machine, figures_of(machine, run[:cut]), run[cut:], cut), whole)
            tuples = chance_tuples(chance, machine, 6)
            found = model.figures_behind(machine, run + tuples)
            if type(found) is int:
                with self.assertRaises(NoIndex) as caught:
                    led_on(machine, whole, tuples, len(run))
                self.assertEqual(caught.exception.index, found - len(run))
            else:
                self.assertEqual(led_on(machine, whole, tuples, len(run)), found)

    def test_new_each_time(self):
        run = [(0, A), (0, B), (1, B)]
        first = figures_of(FRONT_MACHINE, run)
        figures_of(FRONT_MACHINE, run).clear()
        self.assertEqual(figures_of(FRONT_MACHINE, run), first)
        figures = figures_of(FRONT_MACHINE, run)
        found = led_on(FRONT_MACHINE, figures, [], 3)
        found.append(0)
        self.assertEqual(figures, first)
        self.assertEqual(led_on(FRONT_MACHINE, figures, [], 3), first)
        row_by(FRONT_MACHINE, 0, figures).clear()
        self.assertEqual(row_by(FRONT_MACHINE, 0, figures), [B, A])
        self.assertEqual(figures, first)


class RowsTest(unittest.TestCase):

    def test_is_ahead_by(self):
        for one, other, ahead in (
                ((0, (0,)), (0, (1,)), True), ((0, (5,)), (0, (1,)), False), ((1, (0,)), (0, (1,)), True), ((0, (1,)), (1, (0,)), False),
                ((1, (2,)), (1, (1,)), True), ((1, (1,)), (1, (2,)), False), ((1, (9,)), (0, (1,)), True), ((0, (0,)), (1, (9,)), False)):
            self.assertIs(is_ahead_by(FRONT_MACHINE, 0, one, other), ahead)
        # By the moment at, not by the first or the last one.
        for row, one, other, ahead in (
                (0, (1, (0, 5)), (1, (3, 4)), True), (0, (1, (1, 4)), (1, (0, 5)), False), (0, (1, (0, 5)), (2, (1, 2, 6)), False),
                (0, (2, (1, 2, 6)), (1, (0, 5)), True), (1, (2, (0, 5, 9)), (2, (1, 2, 3)), False), (1, (2, (1, 2, 3)), (2, (0, 5, 9)), True),
                (1, (2, (1, 2, 3)), (3, (4,)), True), (1, (3, (0,)), (2, (1, 2, 3)), True), (1, (0, (0,)), (1, (1, 7)), False),
                (1, (1, (1, 7)), (0, (0,)), True), (0, (3, (0,)), (0, (1,)), True), (0, (3, (0,)), (1, (1, 2)), False)):
            self.assertIs(is_ahead_by(WIDE_MACHINE, row, one, other), ahead, (row, one, other))

    def test_row_by_hand(self):
        self.assertEqual(row_by(FRONT_MACHINE, 0, []), [])
        figures = [(A, (0, (4,))), (B, (1, (2,))), (C, (0, (1,))), ((0, 3), (1, (3,)))]
        before = lasting(figures)
        self.assertEqual(row_by(FRONT_MACHINE, 0, figures), [(0, 3), B, C, A])
        self.assertEqual(lasting(figures), before)
        figures = [(A, (1, (0, 5))), (B, (2, (1, 2, 6))), (K, (3, (3,))), (M, (3, (8,)))]
        self.assertEqual(row_by(WIDE_MACHINE, 0, figures), [B, A, K, M])
        self.assertEqual(row_by(WIDE_MACHINE, 1, figures), [A, B, K, M])

    def test_as_the_model_has_it(self):
        chance = random.Random(96)
        seen = set()
        for machine in ALL + tuple(chance_machine(chance) for _ in range(200)):
            figures = figures_of(machine, chance_run(chance, machine, 20))
            for row in range(len(machine[1][0][0])):
                order = row_by(machine, row, figures)
                self.assertIs(type(order), list)
                self.assertEqual(sorted(order), [x for x, _ in figures])
                table = dict(figures)
                for one, other in itertools.permutations(order, 2):
                    ahead = model.is_ahead(machine, row, table[one], table[other])
                    self.assertIs(is_ahead_by(machine, row, table[one], table[other]), ahead)
                    self.assertEqual(order.index(one) < order.index(other), ahead)
                    seen.add((len(machine[0]), len(machine[1][0][0]), machine[1][table[one][0]][0][row][1]))
        self.assertEqual(len(seen), 8)

    def test_whatever_was_asked_between(self):
        run = [(0, A), (0, B), (1, B)]
        first = row_by(FRONT_MACHINE, 0, figures_of(FRONT_MACHINE, run))
        figures_of(WIDE_MACHINE, [(0, K)])
        first_barred(FRONT_MACHINE, [(1, C)])
        self.assertEqual(row_by(FRONT_MACHINE, 0, figures_of(FRONT_MACHINE, run)), first)


if __name__ == "__main__":
    unittest.main()
