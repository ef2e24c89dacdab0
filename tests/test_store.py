"""[40]: a store of things."""

import random
import time
import unittest

from ownmoment.errors import IsThere, MomentError, NoIndex, NotLet, NotThere, Wrong
from ownmoment.store import Store
from tests import machine_model, model
from tests.machine_books import APART_FULL, ELDER, KINDS, MORE, SORT, one_row
from tests.samples import FRONT_MACHINE, LEAST_MACHINE, WIDE_MACHINE, any_values, lasting
from tests.test_least import BEHIND
from tests.test_machines import LABELLED, ROWS, chance_machine

LATER, EARLIER = "later", "earlier"
A, B, C, K = (0, 0), (0, 1), (0, 2), (1, 0)
ALL = (FRONT_MACHINE, LEAST_MACHINE, WIDE_MACHINE, LABELLED, ROWS, BEHIND, APART_FULL, ELDER, KINDS, MORE, SORT)


class Plain:
    """A plain list that is sorted anew, by the definitions."""

    def __init__(self, machine):
        self.machine, self.run = machine, []

    def bar(self, deed, x):
        figures = dict(model.figures_behind(self.machine, self.run))
        if deed == 0:
            return IsThere if x in figures else None
        if x not in figures:
            return NotThere
        return NotLet if type(model.figures_behind(self.machine, self.run + [(deed, x)])) is int else None

    def figures(self):
        return model.figures_behind(self.machine, self.run)

    def row(self):
        return machine_model.row_of(self.machine, 0, self.figures())


def told(store):
    return (store.now(), store.many(), store.row(), store.figures())


class StoreTest(unittest.TestCase):

    def check(self, store, plain, chance):
        figures, row = plain.figures(), plain.row()
        self.assertEqual(told(store), (len(plain.run), len(row), row, figures))
        for at, x in enumerate(row):
            self.assertEqual((store.place_of(x), store.thing_at(at), store.figure_of(x)), (at, x, dict(figures)[x]))
        for index in (-1, len(row), len(row) + 3, -10 ** 39, 10 ** 39):
            with self.assertRaises(NoIndex) as caught:
                store.thing_at(index)
            self.assertEqual(caught.exception.index, index)
        many = len(plain.machine[1])
        for points in ((), tuple(range(many)), tuple(point for point in range(many) if chance.random() < .5), (chance.randrange(many),)):
            there = [x for x in row if dict(figures)[x][0] in points]
            self.assertEqual(store.foremost(points), there[0] if there else None)

    def play(self, machine, chance, length):
        before = lasting(machine)
        store, plain = Store(machine), Plain(machine)
        things = [(kind, number) for kind in range(len(machine[0])) for number in (0, 1, 5, 9999)]
        seen = set()
        for _ in range(length):
            deed, x = chance.choice([0, -1, *range(len(machine[2][0]) + 1), *range(1, len(machine[2][0]) + 1)]), chance.choice(things)
            bar = plain.bar(deed, x)
            seen.add(bar)
            if bar is None:
                self.assertIsNone(store.do(deed, x))
                plain.run.append((deed, x))
                self.check(store, plain, chance)
                continue
            was = told(store)
            with self.assertRaises(bar) as caught:
                store.do(deed, x)
            self.assertEqual(caught.exception.thing, x)
            if bar is NotLet:
                self.assertEqual(caught.exception.deed, deed)
            self.assertEqual(told(store), was)
        self.assertEqual(lasting(machine), before)
        return seen

    def test_empty(self):
        store = Store(FRONT_MACHINE)
        self.assertEqual(told(store), (0, 0, [], []))
        self.assertIsNone(store.foremost((0, 1)))
        self.assertIsNone(store.foremost(()))

    def test_by_hand(self):
        store = Store(FRONT_MACHINE)
        for deed, x in ((0, B), (0, A), (1, B), (0, C), (1, A), (-1, B), (0, B)):
            store.do(deed, x)
        self.assertEqual(told(store), (7, 3, [A, C, B], [(A, (1, (4,))), (B, (0, (6,))), (C, (0, (3,)))]))
        self.assertEqual([store.foremost(points) for points in ((), (0,), (1,), (0, 1))], [None, C, A, A])
        self.assertEqual([store.place_of(x) for x in (A, B, C)], [0, 2, 1])

    def test_row_0_counts(self):
        store = Store(APART_FULL)
        for deed, x in ((0, A), (0, B), (2, B), (1, A), (2, A), (1, B)):
            store.do(deed, x)
        self.assertEqual(store.row(), [B, A])

    def test_beside_a_plain_list(self):
        chance = random.Random(281)
        seen = set()
        for machine in ALL + tuple(chance_machine(chance) for _ in range(60)):
            seen |= self.play(machine, chance, 60)
        self.assertEqual(seen, {None, IsThere, NotThere, NotLet})

    def test_what_is_not_there(self):
        store = Store(FRONT_MACHINE)
        store.do(0, A)
        for call in (store.place_of, store.figure_of):
            for x in (B, K, (1, 9999)):
                with self.assertRaises(NotThere) as caught:
                    call(x)
                self.assertEqual(caught.exception.thing, x)

    def test_copied(self):
        chance = random.Random(282)
        for machine in ALL:
            store, plain = Store(machine), Plain(machine)
            for x in [(kind, number) for kind in range(len(machine[0])) for number in range(3)]:
                store.do(0, x)
                plain.run.append((0, x))
            other = store.copied()
            self.assertIsInstance(other, Store)
            self.check(other, plain, chance)
            was = told(store)
            other.do(-1, A)
            other.do(0, (0, 8))
            self.assertEqual(told(store), was)
            self.check(store, plain, chance)
            again = told(other)
            store.do(-1, B)
            store.do(0, (0, 9))
            self.assertEqual(told(other), again)
            self.assertEqual(other.now(), len(plain.run) + 2)

    def test_what_was_told_changes_nothing(self):
        store = Store(FRONT_MACHINE)
        store.do(0, A)
        store.row().clear()
        store.figures().append(0)
        self.assertEqual(told(store), (1, 1, [A], [(A, (0, (0,)))]))

    def test_many(self):
        # Ten thousand things, twenty thousand tuples, asked about each time.
        begin = time.process_time()
        store = Store(FRONT_MACHINE)
        chance = random.Random(283)
        things = [(0, number) for number in range(10000)]
        chance.shuffle(things)
        for x in things:
            store.do(0, x)
        for _ in range(10000):
            x = chance.choice(things)
            store.do(1, x)
            self.assertEqual(store.place_of(x), 0)
            self.assertEqual(store.foremost((1,)), x)
            store.thing_at(chance.randrange(10000))
            store.foremost((0,))
        self.assertEqual((store.now(), store.many(), len(store.row())), (20000, 10000, 10000))
        self.assertEqual(store.row(), [x for _, x in sorted(((1 - point, times[0] * (1 - 2 * point)), x) for x, (point, times) in store.figures())])
        self.assertLess(time.process_time() - begin, 10)


class WrongTest(unittest.TestCase):

    def refused(self, place, call, *args):
        with self.assertRaises(Wrong) as caught:
            call(*args)
        self.assertEqual((caught.exception.place, type(caught.exception.place)), (place, int))

    def test_machine(self):
        for value in any_values():
            self.refused(0, Store, value)
        self.refused(0, Store, (FRONT_MACHINE[0], list(FRONT_MACHINE[1]), FRONT_MACHINE[2]))
        self.refused(0, Store, Store(FRONT_MACHINE))

    def test_methods(self):
        store = Store(FRONT_MACHINE)
        store.do(0, A)
        was = told(store)
        for value in any_values() + [store]:
            if not (type(value) is int and value in (-1, 0, 1)):
                self.refused(0, store.do, value, A)
                self.refused(0, store.do, value, value)
            if not (model.ok_thing(value) and value[0] == 0):
                # Ahead of all others: at these deeds A is there, and nothing else is.
                for deed in (-1, 0, 1):
                    self.refused(1, store.do, deed, value)
            if not model.ok_thing(value):
                self.refused(0, store.place_of, value)
                self.refused(0, store.figure_of, value)
            if type(value) is not int:
                self.refused(0, store.thing_at, value)
            if value not in ((), (0,)) or type(value) is not tuple:
                self.refused(0, store.foremost, value)
        for points in ((1, 0), (0, 0), (2,), (-1,), (0, 2), (True,), (False, 1), [0], [], (0, 1, 1), (None,), ("0",)):
            self.refused(0, store.foremost, points)
        self.refused(0, store.do, 2, A)
        self.refused(0, store.do, -2, A)
        self.refused(1, store.do, 0, K)
        self.assertEqual(told(store), was)
        for call in (lambda: store.do(0, A), lambda: store.do(1, B)):
            with self.assertRaises(MomentError):
                call()
        self.assertEqual(told(store), was)

    def test_truths_in_a_thing(self):
        store = Store(one_row((0, 0), [(0, LATER, 0, 1)], ((None,),)))
        store.do(0, (1, 1))
        for thing in ((True, 1), (1, True), (True, True)):
            self.refused(1, store.do, -1, thing)
            self.refused(0, store.place_of, thing)
        self.assertEqual(store.row(), [(1, 1)])


if __name__ == "__main__":
    unittest.main()
