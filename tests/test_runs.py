"""[17]: runs."""

import random
import unittest

from ownmoment.errors import IsThere, NotLet, NotThere
from ownmoment.runs import alone_run, first_wrong_at, is_run, stand_behind, steps_along
from tests import model
from tests.samples import BOOKS, LEAST, SWAP, WIDE, any_values, chance_books, chance_run, chance_things, lasting, variants

A, B, C = (0, 0), (0, 1), (0, 2)
ERRORS = {"IsThere": IsThere, "NotThere": NotThere, "NotLet": NotLet}
MARKED = ((0,), 2, 1, 1, (((), ()), ((0,), (("mark", (1, 1)),)), ((1,), (("up", 0),))))


def chance_tuples(chance, book, length):
    """Tuples that often cannot be done."""
    things = chance_things(book, 3)
    return [(chance.choice((-1, *range(len(book[4])))), chance.choice(things)) for _ in range(length)]


class RunsTest(unittest.TestCase):

    def check(self, book, run):
        """Whatever can be done of the run, and the error of what cannot."""
        before = lasting(run)
        wrong = model.wrong_at(book, run)
        self.assertIs(is_run(book, run), wrong is None)
        if wrong is None:
            self.assertIsNone(first_wrong_at(book, run))
            world, steps = model.done(book, run)
            self.assertEqual(stand_behind(book, run), world.stand())
            self.assertEqual(steps_along(book, run), steps)
        else:
            index, name, (deed, x) = wrong
            self.assertEqual(first_wrong_at(book, run), index)
            for ask in (stand_behind, steps_along):
                with self.assertRaises(ERRORS[name]) as caught:
                    ask(book, run)
                self.assertEqual(caught.exception.thing, x)
                if name == "NotLet":
                    self.assertEqual(caught.exception.deed, deed)
        self.assertEqual(lasting(run), before)

    def test_by_hand(self):
        run = [(0, A), (0, B), (1, B), (-1, A)]
        self.assertEqual(stand_behind(SWAP, run), (((B,),), ((B, 0),), ()))
        self.assertEqual(stand_behind(SWAP, run[:3]), (((B, A),), ((A, 0), (B, 0)), ((A, B, 0), (B, A, 0))))
        self.assertEqual(steps_along(SWAP, run), [[], [], [((0,), stand_behind(SWAP, run[:3]))], []])
        self.assertEqual(stand_behind(SWAP, []), (((),), (), ()))
        self.assertEqual(stand_behind(WIDE, []), (((), ()), (), ()))
        self.assertEqual(steps_along(SWAP, []), [])
        self.assertIs(is_run(SWAP, []), True)
        self.assertIsNone(first_wrong_at(SWAP, []))

    def test_wrong_tuples_by_hand(self):
        for run, index, error in (
                ([(1, A)], 0, NotThere), ([(-1, A)], 0, NotThere), ([(0, A), (0, A)], 1, IsThere), ([(0, A), (2, A), (1, B)], 1, NotLet),
                ([(0, A), (1, A), (1, A), (0, A)], 2, NotLet), ([(0, A), (-1, A), (1, A)], 2, NotThere), ([(0, A), (1, A), (2, A), (-1, B)], 3, NotThere),
                ([(0, A), (-1, A), (0, A), (2, A)], 3, NotLet), ([(0, B), (1, A), (0, B)], 1, NotThere)):
            self.check(MARKED, run)
            self.assertEqual(first_wrong_at(MARKED, run), index)
            for ask in (stand_behind, steps_along):
                with self.assertRaises(error):
                    ask(MARKED, run)

    def test_as_the_model_has_it(self):
        chance = random.Random(41)
        for book in BOOKS + tuple(chance_books(42, 120)):
            self.check(book, chance_run(chance, book, 18))
            for length in (1, 2, 3, 5, 9):
                self.check(book, chance_tuples(chance, book, length))
            run = chance_run(chance, book, 10)
            run.insert(chance.randrange(11), chance_tuples(chance, book, 1)[0])
            self.check(book, run)

    def test_is_run_of_any_value(self):
        for book in (SWAP, LEAST, WIDE):
            for value in any_values():
                self.assertIs(is_run(book, value), type(value) is list and value in ([], [(0, (0, 0))]), value)

    def test_is_run_of_one_place_otherwise(self):
        for book, run in ((SWAP, [(0, A), (0, B), (1, B), (-1, A)]), (WIDE, [(0, (1, 1)), (4, (1, 1))])):
            for value in variants(run):
                good = (type(value) is list and all(type(one) is tuple and len(one) == 2 and model.ok_int(one[0], -1, len(book[4]) - 1)
                                                    and model.ok_thing(one[1]) and one[1][0] < len(book[0]) for one in value)
                        and model.wrong_at(book, value) is None)
                self.assertIs(is_run(book, value), good, value)
        for value in (((0, A),), [[0, A]], [(False, A)], [(0, (False, 0))], [(0, (0, False))], [(0, A), (True, A)], [(0, A), (2, A)], [(0, A), (-2, A)],
                      [(0, (1, 0))], [(0, (0, 10000))], [(0, A), (0, B), None], [(0, A, 0)], {0: A}, "0.0"):
            self.assertIs(is_run(SWAP, value), False, value)

    def test_one_thing_that_comes_and_goes_some_hundred_times(self):
        run = [(0, B)]
        for _ in range(400):
            run += [(0, A), (1, A), (-1, A)]
        self.check(SWAP, run)
        self.assertEqual(stand_behind(SWAP, run + [(0, A)])[0], ((B, A),))
        self.assertEqual(len(steps_along(SWAP, run)), 1201)
        self.check(SWAP, run + [(-1, A)])
        self.check(SWAP, run + [(0, A), (0, A)])
        self.assertIs(is_run(LEAST, [(0, A), (-1, A)] * 1500), True)

    def test_many_things(self):
        run = [(0, (0, number)) for number in range(1500)]
        self.assertIs(is_run(SWAP, run), True)
        self.assertIs(is_run(SWAP, run + run[:1]), False)

    def test_alone_run(self):
        run = [(0, A), (0, B), (1, B), (0, C), (-1, A), (0, A), (1, C)]
        before = lasting(run)
        self.assertEqual(alone_run(run, (A,)), [(0, A), (-1, A), (0, A)])
        self.assertEqual(alone_run(run, (B, C)), [(0, B), (1, B), (0, C), (1, C)])
        self.assertEqual(alone_run(run, (A, B, C)), run)
        self.assertEqual(alone_run(run, ()), [])
        self.assertEqual(alone_run(run, ((0, 9), (1, 0))), [])
        self.assertEqual(alone_run(run, (A, (1, 7))), [(0, A), (-1, A), (0, A)])
        self.assertEqual(alone_run([], (A,)), [])
        self.assertEqual(lasting(run), before)

    def test_what_is_returned_is_new(self):
        run = [(0, A), (0, B), (1, B)]
        for ask in (lambda: alone_run(run, (A, B)), lambda: steps_along(SWAP, run)):
            first = lasting(ask())
            ask().clear()
            ask().append(3)
            found = ask()
            if found and isinstance(found[-1], list):
                found[-1].append(4)
            self.assertEqual(lasting(ask()), first)
        self.assertEqual(run, [(0, A), (0, B), (1, B)])

    def test_whatever_was_asked_between(self):
        run = [(0, A), (0, B), (1, B)]
        first = stand_behind(SWAP, run)
        first_wrong_at(SWAP, [(1, A)])
        steps_along(WIDE, run)
        self.assertEqual(stand_behind(SWAP, run), first)


if __name__ == "__main__":
    unittest.main()
