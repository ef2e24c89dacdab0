"""[42]: lanes, in which neighbours that stand wrongly change places."""

import itertools
import random
import unittest

from ownmoment.errors import IsThere, NoIndex, NotLet, NotThere, Wrong
from ownmoment.lanes import Lane, turns_by
from tests import machine_model, model
from tests.machine_books import APART_FULL, ELDER, KINDS, MORE, SORT
from tests.samples import FRONT_MACHINE, LEAST_MACHINE, WIDE_MACHINE, any_values, lasting
from tests.test_least import BEHIND
from tests.test_machines import LABELLED, ROWS, chance_machine, chance_run

A, B, C, D, K = (0, 0), (0, 1), (0, 2), (0, 3), (1, 0)
ALL = (FRONT_MACHINE, LEAST_MACHINE, WIDE_MACHINE, LABELLED, ROWS, BEHIND, APART_FULL, ELDER, KINDS, MORE, SORT)


def told(lane):
    return (lane.row(), lane.wrong_at(), lane.many_wrong(), lane.figures())


def should(machine, figures, order):
    """wrong_at and many_wrong, by the definitions."""
    table = dict(figures)

    def wrong(x, y):
        return model.is_ahead(machine, 0, table[y], table[x])
    return ([at for at in range(len(order) - 1) if wrong(order[at], order[at + 1])],
            sum(wrong(x, y) for x, y in itertools.combinations(order, 2)))


def drawn(chance, machine):
    """Figures with gaps between their times, and an order."""
    figures = model.figures_behind(machine, chance_run(chance, machine, 25))
    times = sorted({now for _, (_, live) in figures for now in live})
    fresh = dict(zip(times, sorted(chance.sample(range(5, 300), len(times)))))
    figures = [(x, (point, tuple(fresh[now] for now in live))) for x, (point, live) in figures]
    order = [x for x, _ in figures]
    chance.shuffle(order)
    return figures, order


class LaneTest(unittest.TestCase):

    def check(self, lane, machine, figures, order):
        self.assertEqual(told(lane), (order, *should(machine, figures, order), figures))

    def test_by_hand(self):
        figures = [(A, (1, (3,))), (B, (0, (9,))), (C, (1, (5,))), (D, (0, (2,)))]
        before = lasting(figures)
        lane = Lane(FRONT_MACHINE, figures, [A, B, C, D])
        # As it should stand: C, A, D, B.
        self.assertEqual(told(lane), ([A, B, C, D], [1], 3, figures))
        lane.turn(1)
        self.assertEqual(told(lane), ([A, C, B, D], [0, 2], 2, figures))
        self.assertEqual(lane.settle(), [0, 2])
        self.assertEqual(told(lane), ([C, A, D, B], [], 0, figures))
        self.assertEqual(lane.settle(), [])
        # The next moment is 10: then B stands foremost.
        lane.do(1, B)
        self.assertEqual(told(lane)[0:3], ([C, A, D, B], [2], 3))
        self.assertEqual(dict(lane.figures())[B], (1, (10,)))
        self.assertEqual(lane.settle(), [2, 1, 0])
        self.assertEqual(lane.row(), [B, C, A, D])
        self.assertEqual(lasting(figures), before)

    def test_moments_go_on(self):
        lane = Lane(FRONT_MACHINE, [], [])
        for deed, x in ((0, A), (0, B), (-1, A), (0, A), (1, B)):
            lane.do(deed, x)
        self.assertEqual(lane.figures(), [(A, (0, (3,))), (B, (1, (4,)))])
        self.assertEqual(lane.row(), [B, A])
        lane.do(-1, B)
        other = lane.copied()
        for one in (lane, other):
            one.do(0, C)
            self.assertEqual(one.figures(), [(A, (0, (3,))), (C, (0, (6,)))])
        lane = Lane(ELDER, [(A, (1, (3, 17)))], [A])
        lane.do(0, B)
        self.assertEqual(lane.figures(), [(A, (1, (3, 17))), (B, (0, (18,)))])

    def test_deeds_are_done_where_a_thing_stands(self):
        figures = [(A, (1, (3,))), (B, (0, (9,))), (C, (1, (5,)))]
        lane = Lane(FRONT_MACHINE, figures, [B, A, C])
        lane.do(1, A)
        self.assertEqual(lane.row(), [B, A, C])
        lane.do(0, D)
        self.assertEqual(lane.row(), [B, A, C, D])
        lane.do(-1, A)
        self.assertEqual(lane.row(), [B, C, D])
        lane.do(0, A)
        self.assertEqual(lane.row(), [B, C, D, A])

    def test_as_the_definitions_say(self):
        chance = random.Random(301)
        for machine in ALL + tuple(chance_machine(chance) for _ in range(60)):
            figures, order = drawn(chance, machine)
            before = lasting((machine, figures, order))
            lane = Lane(machine, figures, order)
            now = max((now for _, (_, live) in figures for now in live), default=-1) + 1
            things = [(kind, number) for kind in range(len(machine[0])) for number in range(4)]
            mine, row = list(figures), list(order)
            for _ in range(40):
                self.check(lane, machine, mine, row)
                wrong, many = should(machine, mine, row)
                if wrong and chance.random() < .5:
                    at = chance.choice(wrong)
                    self.assertIsNone(lane.turn(at))
                    row[at], row[at + 1] = row[at + 1], row[at]
                    self.assertEqual(lane.many_wrong(), many - 1)
                    continue
                deed, x = chance.choice([-1, 0, 0, *range(1, len(machine[2][0]) + 1)]), chance.choice(things)
                table = dict(mine)
                entry = machine[2][table[x][0]][deed - 1] if x in table and deed > 0 else None
                error = IsThere if deed == 0 and x in table else NotThere if deed != 0 and x not in table else NotLet if deed > 0 and not entry else None
                if error:
                    with self.assertRaises(error) as caught:
                        lane.do(deed, x)
                    self.assertEqual(caught.exception.thing, x)
                    continue
                self.assertIsNone(lane.do(deed, x))
                if deed == 0:
                    table[x] = (machine[0][x[0]], (now,))
                    row.append(x)
                elif deed == -1:
                    del table[x]
                    row.remove(x)
                else:
                    table[x] = (entry[0], tuple(now if k < 0 else table[x][1][k] for k in entry[1]))
                mine = sorted(table.items())
                now += 1
            self.assertEqual(lasting((machine, figures, order)), before)

    def test_settle(self):
        chance = random.Random(302)
        longest = 0
        for machine in ALL + tuple(chance_machine(chance) for _ in range(60)):
            figures, order = drawn(chance, machine)
            lane = Lane(machine, figures, order)
            many = lane.many_wrong()
            row, turned = list(order), []
            while should(machine, figures, row)[0]:
                at = should(machine, figures, row)[0][0]
                row[at], row[at + 1] = row[at + 1], row[at]
                turned.append(at)
            found = lane.settle()
            self.assertIs(type(found), list)
            self.assertEqual(found, turned)
            self.assertEqual(len(found), many)
            self.assertEqual(lane.row(), row)
            self.assertEqual(row, machine_model.row_of(machine, 0, figures))
            longest = max(longest, many)
        self.assertGreater(longest, 5)

    def test_copied(self):
        figures = [(A, (1, (3,))), (B, (0, (9,))), (C, (1, (5,)))]
        lane = Lane(FRONT_MACHINE, figures, [B, A, C])
        other = lane.copied()
        self.assertIsInstance(other, Lane)
        self.assertEqual(told(other), told(lane))
        other.settle()
        other.do(-1, A)
        self.assertEqual(lane.row(), [B, A, C])
        self.assertEqual(lane.figures(), figures)
        lane.do(0, D)
        self.assertEqual(other.row(), [C, B])

    def test_what_was_told_or_given_changes_nothing(self):
        figures, order = [(A, (1, (3,))), (B, (0, (9,)))], [B, A]
        lane = Lane(FRONT_MACHINE, figures, order)
        figures.clear()
        order.clear()
        was = told(lane)
        for found in (lane.row(), lane.wrong_at(), lane.figures()):
            found.clear()
        self.assertEqual(told(lane), was)
        lane.settle().clear()
        self.assertEqual(lane.row(), [A, B])

    def test_many(self):
        figures = [((0, number), (0, (number,))) for number in range(400)]
        lane = Lane(LEAST_MACHINE, figures, [x for x, _ in figures][::-1])
        self.assertEqual(lane.many_wrong(), 400 * 399 // 2)
        self.assertEqual(len(lane.settle()), 400 * 399 // 2)
        self.assertEqual((lane.many_wrong(), lane.row()), (0, [x for x, _ in figures]))


class ErrorsTest(unittest.TestCase):

    def refused(self, place, call, *args):
        with self.assertRaises(Wrong) as caught:
            call(*args)
        self.assertEqual((caught.exception.place, type(caught.exception.place)), (place, int))

    def test_any_values(self):
        lane = Lane(FRONT_MACHINE, [(A, (0, (3,))), (B, (1, (9,)))], [A, B])
        was = told(lane)
        for value in any_values() + [lane]:
            if type(value) is not int:
                self.refused(0, lane.turn, value)
            if not (type(value) is int and value in (-1, 0, 1)):
                self.refused(0, lane.do, value, A)
                self.refused(0, lane.do, value, value)
            if not (model.ok_thing(value) and value[0] == 0):
                self.refused(1, lane.do, 0, value)
                self.refused(1, lane.do, 1, value)
        self.refused(1, lane.do, 0, K)
        self.refused(0, lane.do, 2, A)
        self.assertEqual(told(lane), was)

    def test_no_index(self):
        lane = Lane(FRONT_MACHINE, [(A, (0, (3,))), (B, (1, (9,))), (C, (0, (4,)))], [A, B, C])
        was = told(lane)
        self.assertEqual(was[1], [0])
        for index in (1, 2, 3, -1, -3, 10 ** 39, -10 ** 39):
            with self.assertRaises(NoIndex) as caught:
                lane.turn(index)
            self.assertEqual(caught.exception.index, index)
        self.assertEqual(told(lane), was)
        lane.turn(0)
        self.assertRaises(NoIndex, lane.turn, 0)

    def test_what_cannot_be_done(self):
        lane = Lane(ELDER, [(A, (0, (3,))), (B, (2, (9,)))], [A, B])
        was = told(lane)
        for deed, x, error in ((0, A, IsThere), (1, C, NotThere), (-1, C, NotThere), (2, A, NotLet), (1, B, NotLet)):
            with self.assertRaises(error) as caught:
                lane.do(deed, x)
            self.assertEqual(caught.exception.thing, x)
            self.assertEqual(told(lane), was)
        # A refusal takes no moment.
        lane.do(1, A)
        self.assertEqual(lane.figures(), [(A, (1, (3, 10))), (B, (2, (9,)))])


class TurnsByTest(unittest.TestCase):

    def brute(self, machine, run, stops):
        lane = Lane(machine, [], [])
        many = 0
        for at, (deed, x) in enumerate(run):
            lane.do(deed, x)
            if at in stops or at == len(run) - 1:
                while lane.wrong_at():
                    lane.turn(lane.wrong_at()[-1])
                    many += 1
        return many

    def test_by_hand(self):
        run = [(0, A), (0, B), (1, B), (1, A), (0, C), (1, C)]
        for stops, many in (((), 2), ((2,), 4), ((3,), 2), ((0, 1, 2, 3, 4, 5), 4), ((5,), 2)):
            self.assertEqual(turns_by(FRONT_MACHINE, run, stops), self.brute(FRONT_MACHINE, run, stops))
            self.assertEqual(turns_by(FRONT_MACHINE, run, stops), many)
        self.assertEqual(turns_by(FRONT_MACHINE, [], ()), 0)
        self.assertEqual(turns_by(LEAST_MACHINE, [(0, A), (0, B)], (0, 1)), 0)

    def test_more_stops_are_never_less(self):
        chance = random.Random(303)
        several = 0
        for machine in ALL + tuple(chance_machine(chance) for _ in range(40)):
            run = chance_run(chance, machine, 20)
            before = lasting(run)
            stops, least = [], -1
            for _ in range(6):
                many = turns_by(machine, run, tuple(stops))
                self.assertEqual(many, self.brute(machine, run, stops))
                self.assertGreaterEqual(many, least)
                several += many > least >= 0
                least = many
                rest = [at for at in range(len(run)) if at not in stops]
                stops = sorted(stops + chance.sample(rest, min(4, len(rest))))
            self.assertGreaterEqual(turns_by(machine, run, tuple(range(len(run)))), least)
            self.assertEqual(lasting(run), before)
        self.assertGreater(several, 20)


if __name__ == "__main__":
    unittest.main()
