"""[41]: a run that can be changed anywhere."""

import random
import unittest

from ownmoment.errors import NoIndex, NotLet, Nothing, Wrong
from ownmoment.late import Past
from tests import machine_model, model
from tests.machine_books import APART_FULL, ELDER, KINDS, MORE, SORT
from tests.samples import FRONT_MACHINE, LEAST_MACHINE, WIDE_MACHINE, any_values, lasting
from tests.test_least import BEHIND
from tests.test_machines import LABELLED, ROWS, chance_machine

A, B, C, K = (0, 0), (0, 1), (0, 2), (1, 0)
ALL = (FRONT_MACHINE, LEAST_MACHINE, WIDE_MACHINE, LABELLED, ROWS, BEHIND, APART_FULL, ELDER, KINDS, MORE, SORT)


def told(past):
    return (past.log(), past.row(), past.figures())


def filled(machine, tuples):
    past = Past(machine)
    for at, (deed, x) in enumerate(tuples):
        past.put_in(at, deed, x)
    return past


class Plain:
    """The same by lists of tuples, each beginning kept."""

    def __init__(self, machine):
        self.machine, self.log, self.done, self.undone = machine, [], [], []

    def row(self, log):
        return machine_model.row_of(self.machine, 0, model.figures_behind(self.machine, log))

    def place(self, log, x):
        row = self.row(log)
        return row.index(x) if x in row else None

    def change(self, log, x):
        """What is returned, or the first tuple that cannot be done."""
        found = model.figures_behind(self.machine, log)
        if type(found) is int:
            return None, log[found]
        places = (self.place(self.log, x), self.place(log, x))
        self.done.append(self.log)
        self.log, self.undone = log, []
        return places, None

    def indexes(self, x):
        found = []
        for at, (deed, y) in enumerate(self.log):
            if y == x:
                found = [] if deed == -1 else found + [at]
        return found


class PastTest(unittest.TestCase):

    def test_by_hand(self):
        past = Past(FRONT_MACHINE)
        self.assertEqual(told(past), ([], [], []))
        self.assertEqual(past.put_in(0, 0, A), (None, 0))
        self.assertEqual(past.put_in(0, 0, B), (None, 0))
        self.assertEqual(told(past), ([(0, B), (0, A)], [B, A], [(A, (0, (1,))), (B, (0, (0,)))]))
        self.assertEqual(past.put_in(2, 1, A), (1, 0))
        self.assertEqual(past.put_in(1, 1, B), (1, 1))
        self.assertEqual(told(past), ([(0, B), (1, B), (0, A), (1, A)], [A, B], [(A, (1, (3,))), (B, (1, (1,)))]))
        self.assertEqual(past.indexes_of(A), [2, 3])
        self.assertEqual(past.take_out(3), (0, 1))
        self.assertEqual(past.put_in(3, -1, B), (0, None))
        self.assertEqual(told(past), ([(0, B), (1, B), (0, A), (-1, B)], [A], [(A, (0, (2,)))]))
        self.assertEqual([past.indexes_of(x) for x in (A, B, C, K)], [[2], [], [], []])
        self.assertEqual(past.take_out(3), (None, 0))

    def test_later_tuples_take_other_moments(self):
        # What was asked first counts: an asking that was forgotten is put in ahead.
        past = filled(ELDER, [(0, A), (0, B), (1, B), (2, B), (1, A), (2, A)])
        self.assertEqual(past.row(), [B, A])
        self.assertEqual(past.take_out(4 + 1), (1, 1))
        self.assertEqual(past.take_out(4), (1, 1))
        self.assertEqual(past.put_in(2, 1, A), (1, 1))
        self.assertEqual(past.put_in(5, 2, A), (1, 0))
        self.assertEqual(told(past), ([(0, A), (0, B), (1, A), (1, B), (2, B), (2, A)], [A, B], [(A, (2, (2,))), (B, (2, (3,)))]))

    def test_what_cannot_be_done(self):
        past = filled(ELDER, [(0, A), (1, A), (2, A), (-1, A), (0, A)])
        past.put_in(5, 0, B)
        was = told(past)
        for call, error in ((lambda: past.take_out(0), (1, A)), (lambda: past.take_out(1), (2, A)), (lambda: past.take_out(3), (0, A)),
                            (lambda: past.put_in(1, 1, A), (1, A)), (lambda: past.put_in(0, 0, A), (0, A)), (lambda: past.put_in(3, 0, A), (0, A)),
                            (lambda: past.put_in(6, 2, A), (2, A)), (lambda: past.put_in(4, 1, A), (1, A)), (lambda: past.put_in(2, -1, A), (2, A)),
                            (lambda: past.put_in(4, -1, A), (-1, A)), (lambda: past.put_in(0, 0, B), (0, B)), (lambda: past.put_in(6, -1, C), (-1, C))):
            with self.assertRaises(NotLet) as caught:
                call()
            self.assertEqual((caught.exception.deed, caught.exception.thing), error)
            self.assertEqual(told(past), was)
        past.undo()
        with self.assertRaises(NotLet):
            past.take_out(0)
        # A refusal forgets nothing.
        past.redo()
        self.assertEqual(told(past), was)

    def test_undo_and_redo(self):
        past = Past(FRONT_MACHINE)
        for call in (past.undo, past.redo):
            self.assertRaises(Nothing, call)
        past.put_in(0, 0, A)
        past.put_in(1, 0, B)
        past.put_in(1, 1, A)
        past.take_out(2)
        self.assertIsNone(past.undo())
        self.assertEqual(past.log(), [(0, A), (1, A), (0, B)])
        past.undo()
        past.undo()
        self.assertEqual(past.log(), [(0, A)])
        self.assertIsNone(past.redo())
        self.assertEqual(past.log(), [(0, A), (0, B)])
        past.put_in(0, 0, C)
        self.assertRaises(Nothing, past.redo)
        self.assertEqual(past.log(), [(0, C), (0, A), (0, B)])
        for log in ([(0, A), (0, B)], [(0, A)], []):
            past.undo()
            self.assertEqual(past.log(), log)
        self.assertRaises(Nothing, past.undo)
        for _ in range(3):
            past.redo()
        self.assertRaises(Nothing, past.redo)
        self.assertEqual(past.log(), [(0, C), (0, A), (0, B)])

    def test_as_the_definitions_say(self):
        chance = random.Random(291)
        barred = 0
        for machine in ALL + tuple(chance_machine(chance) for _ in range(40)):
            before = lasting(machine)
            past, plain = Past(machine), Plain(machine)
            things = [(kind, number) for kind in range(len(machine[0])) for number in (0, 1, 7)]
            for _ in range(50):
                what = chance.choice(("put", "put", "put", "out", "undo", "redo"))
                if what in ("undo", "redo"):
                    mine, theirs = (plain.done, plain.undone) if what == "undo" else (plain.undone, plain.done)
                    if not mine:
                        self.assertRaises(Nothing, getattr(past, what))
                    else:
                        self.assertIsNone(getattr(past, what)())
                        theirs.append(plain.log)
                        plain.log = mine.pop()
                else:
                    index = chance.randrange(len(plain.log) + (what == "put")) if plain.log or what == "put" else 0
                    if what == "put":
                        deed, x = chance.choice([-1, 0, *range(len(machine[2][0]) + 1)]), chance.choice(things)
                        log, args, call = plain.log[:index] + [(deed, x)] + plain.log[index:], (index, deed, x), past.put_in
                    elif plain.log:
                        x = plain.log[index][1]
                        log, args, call = plain.log[:index] + plain.log[index + 1:], (index,), past.take_out
                    else:
                        self.assertRaises(NoIndex, past.take_out, 0)
                        continue
                    others = [y for y in plain.row(plain.log) if y != x]
                    places, bad = plain.change(log, x)
                    if bad is None:
                        self.assertEqual(call(*args), places)
                        self.assertEqual([y for y in past.row() if y != x], others)
                    else:
                        barred += 1
                        with self.assertRaises(NotLet) as caught:
                            call(*args)
                        self.assertEqual((caught.exception.deed, caught.exception.thing), bad)
                self.assertEqual(told(past), (plain.log, plain.row(plain.log), model.figures_behind(machine, plain.log)))
                for x in things:
                    self.assertEqual(past.indexes_of(x), plain.indexes(x))
            self.assertEqual(lasting(machine), before)
        self.assertGreater(barred, 200)

    def test_what_was_told_changes_nothing(self):
        past = filled(FRONT_MACHINE, [(0, A), (1, A)])
        was = told(past)
        for found in (past.log(), past.row(), past.figures(), past.indexes_of(A)):
            found.clear()
        self.assertEqual(told(past), was)
        self.assertEqual(past.indexes_of(A), [0, 1])

    def test_many(self):
        past = Past(FRONT_MACHINE)
        for number in range(600):
            past.put_in(0, 0, (0, number))
        self.assertEqual(past.row(), [(0, number) for number in range(599, -1, -1)])
        self.assertEqual(past.put_in(600, 1, A), (599, 0))


class WrongTest(unittest.TestCase):

    def refused(self, place, call, *args):
        with self.assertRaises(Wrong) as caught:
            call(*args)
        self.assertEqual((caught.exception.place, type(caught.exception.place)), (place, int))

    def test_any_values(self):
        past = filled(FRONT_MACHINE, [(0, A), (1, A)])
        was = told(past)
        for value in any_values() + [past]:
            self.refused(0, Past, value)
            if type(value) is not int:
                self.refused(0, past.put_in, value, 1, A)
                self.refused(0, past.put_in, value, value, value)
                self.refused(0, past.take_out, value)
            if not (type(value) is int and value in (-1, 0, 1)):
                for index in (0, 99):
                    self.refused(1, past.put_in, index, value, A)
                    self.refused(1, past.put_in, index, value, value)
            if not (model.ok_thing(value) and value[0] == 0):
                for index in (0, -1):
                    self.refused(2, past.put_in, index, 1, value)
            if not model.ok_thing(value):
                self.refused(0, past.indexes_of, value)
        self.refused(2, past.put_in, 0, 0, K)
        self.assertEqual(told(past), was)

    def test_no_index(self):
        past = filled(FRONT_MACHINE, [(0, A), (1, A)])
        for index in (-1, 3, 10 ** 39, -10 ** 39):
            # Ahead of NotLet.
            for deed, x in ((0, B), (0, A), (1, C)):
                with self.assertRaises(NoIndex) as caught:
                    past.put_in(index, deed, x)
                self.assertEqual(caught.exception.index, index)
        for index in (-1, 2, 10 ** 39):
            with self.assertRaises(NoIndex) as caught:
                past.take_out(index)
            self.assertEqual(caught.exception.index, index)
        self.assertEqual(past.log(), [(0, A), (1, A)])


if __name__ == "__main__":
    unittest.main()
