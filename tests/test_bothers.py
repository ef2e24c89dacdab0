"""[21]: whether a third thing ever matters between others [5]."""

import random
import unittest

from ownmoment.bothers import bother_of, bothered_at, first_bother, is_bother, is_unbothered
from ownmoment.errors import TooMany
from ownmoment.runs import is_run
from ownmoment.tables import stands_of
from tests import model
from tests.samples import (
    ALWAYS, ASK, BOOKS, FRONT, JUST, JUST_OVER, LEAST, PASS, SWAP, any_values, chance_books, chance_run, chance_things,
    lasting, variants)

A, B, C, D, K, M = (0, 0), (0, 1), (0, 2), (0, 3), (1, 0), (1, 1)
SWAP_BOTHER = ([(0, A), (0, B), (0, C), (1, C)], (A, C), 0)

# What one does to the mark of another one bothers this one by itself.
MARKS = ((0,), 2, 1, 1, (((), ()), ((0,), (("first", 0), ("marks", (ALWAYS,), (1, 1))))))
# The first kind passes those of the second kind that are directly ahead: a third thing stops it.
KINDS = ((0, 0), 1, 1, 1, (((), ()), ((0,), (("pass", 0, (((), (), (1,), (), 0),)),))))
# The same in the second one of two rows, behind a step that does nothing.
ROWS = ((0,), 1, 2, 1, (((), ()), ((0,), (("first", 0), ("down", 1)))))
# Two things of the second kind are needed.
SECOND = ((0, 1), 2, 1, 1, (((), ()), ((1,), (("up", 0),))))
# Only the second kind has so many stands.
MANY = ((0, 1), 5, 2, 1, (((), (("up", 0),)), ((1, 2, 3, 4), (("mark", (0, 2, 3, 4, 1)),)), ((1,), (("first", 0),)), ((2,), (("first", 1),))))
QUIET_MANY = ((0, 1), 5, 2, 1, (((), ()),) + MANY[4][1:])



def blocked(mover, statement):
    """Things of the kind mover come to the front; one of them may do the statement."""
    return ((0, 1), 2, 1, 1, (((), (("if", (mover,), (("first", 0),), ()),)), ((mover,), (statement,))))


class BotheredAtTest(unittest.TestCase):

    def test_things_of_the_set(self):
        run = [(0, A), (0, B), (0, C), (1, C), (1, C)]
        self.assertEqual(bothered_at(SWAP, run, (A, C)), (3, 0))
        self.assertEqual(bothered_at(SWAP, run[:4], (A, C)), (3, 0))
        self.assertIsNone(bothered_at(SWAP, run[:3], (A, C)))
        for some in ((A,), (B,), (C,), (A, B), (B, C), (A, B, C)):
            self.assertIsNone(bothered_at(SWAP, run, some), some)

    def test_things_that_are_not_of_the_set(self):
        run = [(0, A), (0, B), (1, A)]
        self.assertEqual(bothered_at(MARKS, run, (B,)), (2, 1))
        self.assertIsNone(bothered_at(MARKS, run, (A,)))
        self.assertIsNone(bothered_at(MARKS, run, (A, B)))
        # Its own deed is not let any more to B, and A does another step than it would alone.
        self.assertEqual(bothered_at(MARKS, run + [(0, C)], (B, C)), (2, 1))

    def test_the_least_step(self):
        # Behind "first" nothing is otherwise; by "down", in row 1, the second step differs.
        run = [(0, A), (0, B), (0, C), (1, A)]
        self.assertEqual(bothered_at(ROWS, run, (A, C)), (3, 1))
        book = ((0,), 1, 1, 2, (((), ()), ((0,), (("first", 0), ("last", 0), ("notes", (((), (), (), (), 2),), (0, 0), (1, 1)), ("if", (), (), (("up", 0), ("up", 0)))))))
        run = [(0, A), (0, B), (0, C), (1, A)]
        for some in ((A, B), (A, C), (B, C)):
            found = model.bothered_at(book, run, some)
            self.assertEqual(bothered_at(book, run, some), found)
        self.assertEqual(bothered_at(book, run, (A, B)), (3, 3))
        self.assertEqual(bothered_at(book, run, (A, C)), None)

    def test_things_that_are_not_of_the_run(self):
        run = [(0, A), (0, B), (0, C), (1, C)]
        for some, found in (((A, C, D), (3, 0)), ((A, C, K), (3, 0)), ((D,), None), ((K,), None), ((A, D), None), ((B, C, (0, 9999)), None)):
            self.assertEqual(bothered_at(SWAP, run, some), found, some)
        self.assertIsNone(bothered_at(SWAP, [], (A,)))

    def test_things_that_went(self):
        run = [(0, B), (0, A), (-1, B), (0, C), (1, C), (0, B), (0, D), (1, D), (1, D)]
        for some in model.sets_of({A, B, C, D}) + [(A, B, C), (A, C, D), (A, B, D), (B, C, D)]:
            self.assertEqual(bothered_at(SWAP, run, some), model.bothered_at(SWAP, run, some), some)
        self.assertEqual(bothered_at(SWAP, run, (A, C, D)), (7, 0))

    def test_as_the_model_has_it(self):
        chance = random.Random(61)
        hits = 0
        for book in BOOKS + tuple(chance_books(62, 80)) + tuple(chance_books(63, 30, kinds=2, rows=2)):
            run = chance_run(chance, book, 14)
            before = lasting(run)
            things = chance_things(book) + [(0, 99), (1, 99)]
            for _ in range(8):
                some = tuple(sorted(chance.sample(things, chance.randrange(1, 5))))
                found = model.bothered_at(book, run, some)
                hits += found is not None
                self.assertEqual(bothered_at(book, run, some), found)
            self.assertEqual(lasting(run), before)
        self.assertGreater(hits, 60)


class FirstBotherTest(unittest.TestCase):

    def test_by_hand(self):
        run = [(0, A), (0, B), (0, C), (1, C), (1, B), (1, A)]
        self.assertEqual(first_bother(SWAP, run), (3, (A, C), 0))
        self.assertIsNone(first_bother(SWAP, run[:3]))
        self.assertIsNone(first_bother(SWAP, []))
        self.assertIsNone(first_bother(PASS, [(0, A), (0, B), (0, C), (1, C), (1, B)]))
        self.assertEqual(first_bother(MARKS, [(0, B), (0, C), (1, C)]), (2, (B,), 1))
        self.assertEqual(first_bother(ROWS, [(0, D), (0, B), (0, A), (1, D)]), (3, (A, D), 1))

    def test_with_a_thing_that_went(self):
        # It is of the run, and less than what is bothered: so it is of the least set.
        self.assertEqual(first_bother(MARKS, [(0, A), (-1, A), (0, B), (0, C), (1, C)]), (4, (A, B), 1))
        self.assertEqual(first_bother(MARKS, [(0, D), (-1, D), (0, B), (0, C), (1, C)]), (4, (B,), 1))
        # Those that come only later are not of the least set.
        self.assertEqual(first_bother(MARKS, [(0, B), (0, C), (1, C), (0, A)]), (2, (B,), 1))

    def test_as_the_model_has_it(self):
        chance = random.Random(64)
        hits = 0
        for book in BOOKS + tuple(chance_books(65, 120)):
            run = chance_run(chance, book, 9)
            before = lasting(run)
            found = model.first_bother(book, run)
            hits += found is not None
            self.assertEqual(first_bother(book, run), found)
            self.assertEqual(lasting(run), before)
        self.assertGreater(hits, 20)

    def test_a_long_run_of_many_things(self):
        chance = random.Random(66)
        things = [(0, number) for number in range(12)]
        run = [(0, x) for x in things] + [(1, (0, 0)), (1, (0, 11))]
        run += [(1, chance.choice(things)) for _ in range(46)]
        self.assertIsNone(first_bother(PASS, run))
        self.assertEqual(first_bother(SWAP, run), (13, ((0, 0), (0, 11)), 0))
        self.assertIsNone(first_bother(FRONT, run))


class BotherOfTest(unittest.TestCase):

    def check(self, book, bother):
        before = lasting(book)
        found = bother_of(book)
        self.assertEqual(found, bother)
        self.assertIs(is_unbothered(book), bother is None)
        if bother is not None:
            self.assertIs(type(found[0]), list)
            self.assertIs(is_bother(book, found), True)
            self.assertEqual(first_bother(book, found[0]), (len(found[0]) - 1, *found[1:]))
        self.assertEqual(lasting(book), before)

    def test_the_example_of_the_document(self):
        self.check(SWAP, SWAP_BOTHER)

    def test_by_hand(self):
        self.check(LEAST, None)
        self.check(FRONT, None)
        self.check(PASS, None)
        self.check(MARKS, ([(0, A), (0, B), (1, A)], (B,), 1))
        self.check(KINDS, ([(0, K), (0, A), (0, B), (1, B)], (B, K), 0))
        self.check(ROWS, ([(0, A), (0, B), (0, C), (1, A)], (A, C), 1))
        self.check(SECOND, ([(0, A), (0, B), (0, K), (1, K)], (A, K), 0))
        # Each of the pools has one of its own.
        for book, bother in (
                (blocked(0, ("up", 0)), ([(0, A), (0, B), (0, C), (1, A)], (A, C), 0)),
                (blocked(0, ("yield", 0, (((), (), (1,), (), 0),))), ([(0, A), (0, B), (0, K), (1, B)], (B, K), 0)),
                (blocked(1, ("yield", 0, (((), (), (0,), (), 0),))), ([(0, A), (0, K), (0, M), (1, M)], (A, M), 0)),
                (blocked(1, ("up", 0)), ([(0, K), (0, M), (0, (1, 2)), (1, K)], (K, (1, 2)), 0))):
            self.check(book, bother)
            self.assertEqual(model.bother_of(book), bother)
        # A bother with two things alone: one that comes changes the mark of the other one.
        self.check(((0,), 2, 1, 1, (((), (("marks", (ALWAYS,), (1, 1)),)),)), ([(0, A), (0, B)], (A,), 0))

    def test_all_runs_of_a_few_tuples(self):
        for book in (SWAP, FRONT, MARKS, KINDS, ROWS, ASK):
            self.check_short(book, 5 if len(book[0]) == 1 else 4)
        for book in chance_books(67, 30, deeds=2) + chance_books(68, 12, deeds=2, kinds=2):
            self.check_short(book, 4)

    def check_short(self, book, most):
        found = model.bother_within(book, most)
        try:
            bother = bother_of(book)
        except TooMany:
            return
        self.assertEqual(bother if bother is None or len(bother[0]) <= most else None, found, book)

    def test_as_the_model_has_it(self):
        many = {}
        for book in chance_books(69, 60, kinds=1, marks=2, notes=2) + chance_books(70, 40, kinds=2, marks=2, notes=1, rows=1) \
                + chance_books(71, 12, kinds=2, rows=2, marks=1, notes=1) + chance_books(72, 30, kinds=1, marks=3, notes=1, deeds=4):
            try:
                found = bother_of(book)
            except TooMany:
                many["many"] = many.get("many", 0) + 1
                continue
            self.check(book, model.bother_of(book))
            key = None if found is None else len(found[0])
            many[key] = many.get(key, 0) + 1
        self.assertGreater(many[None], 20)
        self.assertGreater(many[3], 5)
        self.assertGreater(many[4], 5)

    def test_unbothered_ones_are_so_with_any_number_of_things(self):
        chance = random.Random(73)
        asked = 0
        for book in [FRONT, PASS, ASK] + chance_books(74, 60):
            try:
                if not is_unbothered(book):
                    continue
            except TooMany:
                continue
            asked += 1
            things = chance_things(book) + [(0, 50), (0, 51)]
            run = chance_run(chance, book, 25, things)
            for _ in range(6):
                some = tuple(sorted(chance.sample(things, chance.randrange(1, 5))))
                self.assertIsNone(bothered_at(book, run, some))
        self.assertGreater(asked, 20)

    def test_too_many(self):
        for things, book in JUST_OVER:
            if len(book[0]) == 1 and len(things) == 3:
                for ask in (bother_of, is_unbothered):
                    with self.assertRaises(TooMany) as caught:
                        ask(book)
                    self.assertEqual(caught.exception.most, 1500)
        for many, things, book in JUST:
            if len(book[0]) == 1 and len(things) == 3:
                self.assertEqual(is_unbothered(book), bother_of(book) is None)
                if bother_of(book) is not None:
                    self.assertIs(is_bother(book, bother_of(book)), True)

    def test_too_many_of_some_pool_alone(self):
        self.assertLess(len(stands_of(MANY, (A, B, C))), 1500)
        self.assertLess(len(stands_of(MANY, (A, B, K))), 1500)
        with self.assertRaises(TooMany):
            stands_of(MANY, (K, M, (1, 2)))
        # Also if the first pool alone has a bother.
        self.assertIsNotNone(model.bother_at_end(MANY, [(0, A), (0, B), (0, C)]))
        for book in (MANY, QUIET_MANY):
            for ask in (bother_of, is_unbothered):
                with self.assertRaises(TooMany) as caught:
                    ask(book)
                self.assertEqual(caught.exception.most, 1500)

    def test_new_each_time(self):
        bother_of(SWAP)[0].append(5)
        is_unbothered(FRONT)
        bother_of(MARKS)[0].clear()
        self.assertEqual(bother_of(SWAP), SWAP_BOTHER)
        self.assertEqual(bother_of(MARKS)[0], [(0, A), (0, B), (1, A)])


class IsBotherTest(unittest.TestCase):

    def good(self, book, value):
        """By the document's words, with the model."""
        if type(value) is not tuple or len(value) != 3:
            return False
        run, some, at = value
        if type(run) is not list or not all(type(one) is tuple and len(one) == 2 and model.ok_int(one[0], -1, len(book[4]) - 1)
                                            and model.ok_thing(one[1]) and one[1][0] < len(book[0]) for one in run):
            return False
        if model.wrong_at(book, run) is not None or type(at) is not int or type(some) is not tuple or not some:
            return False
        if not all(model.ok_thing(x) for x in some) or list(some) != sorted(set(some)) or not set(some) <= {x for _, x in run}:
            return False
        return model.bothered_at(book, run, some) == (len(run) - 1, at)

    def test_the_argument_stays_as_it_is(self):
        for value in (SWAP_BOTHER, (SWAP_BOTHER[0][:3], (A, C), 0), (SWAP_BOTHER[0], (A, B), 0)):
            before = lasting(value)
            is_bother(SWAP, value)
            self.assertEqual(lasting(value), before)

    def test_of_what_bother_of_returns(self):
        for book in (SWAP, MARKS, KINDS, ROWS, SECOND):
            self.assertIs(is_bother(book, bother_of(book)), True)
            for other in (FRONT, LEAST):
                self.assertIs(is_bother(other, bother_of(book)), False)

    def test_one_place_otherwise(self):
        for book in (SWAP, MARKS, KINDS, ROWS):
            bother = bother_of(book)
            hits = 0
            for value in variants(bother):
                good = self.good(book, value)
                hits += good
                self.assertIs(is_bother(book, value), good, value)
            self.assertIs(is_bother(book, bother), True)
        for value in ((tuple(SWAP_BOTHER[0]), (A, C), 0), (SWAP_BOTHER[0], [A, C], 0), (SWAP_BOTHER[0], (A, C), False), list(SWAP_BOTHER),
                      (SWAP_BOTHER[0], (C, A), 0), (SWAP_BOTHER[0], (A, C), 1), (SWAP_BOTHER[0], (A, C, C), 0), (SWAP_BOTHER[0], (), 0),
                      (SWAP_BOTHER[0], (A, C, D), 0), (SWAP_BOTHER[0], (A, C, K), 0), (SWAP_BOTHER[0], (A, B), 0), (SWAP_BOTHER[0], (A, C), -1),
                      (SWAP_BOTHER[0], ((False, 0), C), 0), (SWAP_BOTHER[0] + [(1, C)], (A, C), 0), (SWAP_BOTHER[0][:3], (A, C), 0),
                      (SWAP_BOTHER[0], (A, C), None), (SWAP_BOTHER[0] + [(0, A)], (A, C), 0), SWAP_BOTHER + (0,), SWAP_BOTHER[:2],
                      (SWAP_BOTHER[0][:3] + [(True, C)], (A, C), 0), ([], (), 0)):
            self.assertIs(is_bother(SWAP, value), False, value)

    def test_of_more_things(self):
        run = [(0, D), (0, A), (0, B), (0, C), (1, C)]
        self.assertIs(is_bother(SWAP, (run, (A, C), 0)), True)
        self.assertIs(is_bother(SWAP, (run, (A, C, D), 0)), True)
        self.assertIs(is_bother(SWAP, (run, (C, D), 0)), True)
        self.assertIs(is_bother(SWAP, (run, (B, C), 0)), False)
        # Whether a thing of the set is still there does not matter.
        gone = [(0, D), (-1, D)] + run[1:]
        self.assertIs(is_bother(SWAP, (gone, (A, C, D), 0)), True)
        self.assertIs(is_bother(SWAP, (gone, (A, C, (0, 4)), 0)), False)
        things = [(0, number) for number in range(40)]
        run = [(0, x) for x in things] + [(1, things[-1])]
        self.assertIs(is_bother(SWAP, (run, (things[0], things[-1]), 0)), True)
        self.assertIs(is_bother(SWAP, (run, tuple(things[:38]) + (things[39],), 0)), True)
        self.assertIs(is_bother(SWAP, (run, tuple(things), 0)), False)
        self.assertIs(is_bother(FRONT, (run, tuple(things[:38]) + (things[39],), 0)), False)

    def test_by_chance(self):
        chance = random.Random(75)
        hits = 0
        for book in BOOKS + tuple(chance_books(76, 80)):
            run = chance_run(chance, book, 12)
            for _ in range(5):
                things = sorted({x for _, x in run})
                some = tuple(sorted(chance.sample(things, min(chance.randrange(1, 4), len(things)))))
                index, at = model.bothered_at(book, run, some) or (len(run) - 1, 0)
                for end in (index, index + 1, index + 2):
                    for step in (at, at + 1, at - 1):
                        value = (run[:end], some, step)
                        good = self.good(book, value)
                        hits += good
                        self.assertIs(is_bother(book, value), good, value)
        self.assertGreater(hits, 40)

    def test_any_values(self):
        for value in any_values():
            self.assertIs(is_bother(SWAP, value), False, value)
            self.assertIs(is_bother(SWAP, (value, (A, C), 0)), False, value)
            self.assertIs(is_bother(SWAP, (SWAP_BOTHER[0], value, 0)), False, value)
            self.assertIs(is_bother(SWAP, (SWAP_BOTHER[0], (A, C), value)), type(value) is int and value == 0, value)
        self.assertIs(is_run(SWAP, SWAP_BOTHER[0]), True)


if __name__ == "__main__":
    unittest.main()
