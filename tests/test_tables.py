"""[20]: tables of all stands of a few things."""

import itertools
import random
import unittest

from ownmoment.errors import TooMany
from ownmoment.runs import stand_behind
from ownmoment.tables import can_do, is_closed, stands_of
from tests import model
from tests.samples import ASK, BOOKS, FRONT, JUST, JUST_OVER, LEAST, PASS, SWAP, WIDE, any_values, chance_books, chance_run, lasting, variants

A, B, C, K, M = (0, 0), (0, 1), (0, 2), (1, 0), (1, 1)
SMALL = ((0, 1), 2, 1, 1, (((), ()), ((0,), (("mark", (1, 1)), ("first", 0))), ((1,), (("up", 0),))))


def things_of(book):
    """Ascending tuples of one to three things."""
    pool = (A, (0, 4), B) if len(book[0]) == 1 else (A, B, K, M)
    return [tuple(sorted(some)) for size in (1, 2, 3) for some in itertools.combinations(pool, size)]


def least_runs(book, things, most):
    """The least of the shortest runs to each stand, by all runs of at most so many tuples."""
    found = {}
    layer = [[]]
    for _ in range(most + 1):
        following = []
        for run in layer:
            world = model.done(book, run)[0]
            found.setdefault(world.stand(), run)
            following += [run + [one] for one in model.tuples_at(world, things)]
        layer = sorted(following)
    return found


class CanDoTest(unittest.TestCase):

    def test_by_hand(self):
        stand = stand_behind(SMALL, [(0, A), (0, K), (0, C), (1, A)])
        self.assertEqual(can_do(SMALL, stand, (A,)), [(-1, A), (2, A)])
        self.assertEqual(can_do(SMALL, stand, (C,)), [(-1, C), (1, C)])
        self.assertEqual(can_do(SMALL, stand, (A, C, K)), [(-1, A), (-1, C), (-1, K), (1, C), (2, A), (2, K)])
        stand = stand_behind(SMALL, [(0, C)])
        self.assertEqual(can_do(SMALL, stand, (A, C)), [(-1, C), (0, A), (1, C)])
        self.assertEqual(can_do(SMALL, (((),), (), ()), (A, B, K)), [(0, A), (0, B), (0, K)])
        self.assertEqual(can_do(LEAST, (((A,),), ((A, 0),), ()), (A,)), [(-1, A)])

    def test_as_the_model_has_it(self):
        chance = random.Random(51)
        for book in BOOKS + tuple(chance_books(52, 60)):
            for things in things_of(book):
                world = model.done(book, chance_run(chance, book, chance.randrange(8), things))[0]
                stand = world.stand()
                before = lasting(stand)
                self.assertEqual(can_do(book, stand, things), model.tuples_at(world, things))
                self.assertEqual(lasting(stand), before)

    def test_new_each_time(self):
        stand = (((),), (), ())
        can_do(SWAP, stand, (A, B)).clear()
        self.assertEqual(can_do(SWAP, stand, (A, B)), [(0, A), (0, B)])


class StandsOfTest(unittest.TestCase):

    def test_by_hand(self):
        self.assertEqual(stands_of(LEAST, (A,)), [((((),), (), ()), []), ((((A,),), ((A, 0),), ()), [(0, A)])])
        self.assertEqual([(stand[0][0], run) for stand, run in stands_of(FRONT, (A, B))], [
            ((), []), ((A,), [(0, A)]), ((B,), [(0, B)]), ((A, B), [(0, A), (0, B)]), ((B, A), [(0, B), (0, A)])])
        self.assertEqual([(stand[0][0], dict(stand[1]), run) for stand, run in stands_of(SMALL, (A,))], [
            ((), {}, []), ((A,), {A: 0}, [(0, A)]), ((A,), {A: 1}, [(0, A), (1, A)])])

    def test_as_the_model_has_it(self):
        for book in BOOKS[:5] + tuple(chance_books(53, 50, marks=2, notes=1)) + tuple(chance_books(54, 20, notes=2, rows=1, deeds=3)):
            for things in things_of(book)[:7]:
                self.assertEqual(stands_of(book, things), model.stands_of(book, things))

    def test_the_least_of_the_shortest_runs(self):
        for book in BOOKS[:5] + (SMALL,) + tuple(chance_books(55, 12, marks=2, notes=2, deeds=3)):
            for things, most in (((A,), 6), ((A, C), 5), ((A, B, C), 4)):
                least = least_runs(book, things, most)
                found = [(stand, run) for stand, run in stands_of(book, things) if len(run) <= most]
                self.assertEqual(dict(found), least)

    def test_in_the_order_of_the_runs(self):
        for book in (ASK, PASS, SMALL):
            for things in ((A,), (A, B), (A, B, C)):
                found = stands_of(book, things)
                self.assertEqual(found[0], (stand_behind(book, []), []))
                self.assertEqual([run for _, run in found], sorted([run for _, run in found], key=lambda run: (len(run), run)))
                self.assertEqual(len({stand for stand, _ in found}), len(found))
                for stand, run in found:
                    self.assertEqual(stand_behind(book, run), stand)

    def test_the_bound_of_the_document(self):
        self.assertEqual(len(stands_of(WIDE, (A,))), 3)
        full = [stand for stand, _ in stands_of(ASK, (A, B, C)) if len(stand[1]) == 3]
        self.assertLessEqual(len(full), 2 ** 3 * 6)

    def test_too_many(self):
        for many, things, book in JUST:
            self.assertLessEqual(many, 1500)
            self.assertEqual(len(stands_of(book, things)), many)
        self.assertIn(1500, [many for many, _, _ in JUST])
        for things, book in JUST_OVER:
            with self.assertRaises(TooMany) as caught:
                stands_of(book, things)
            self.assertEqual(caught.exception.most, 1500)
            # Fewer things have fewer stands.
            self.assertLess(len(stands_of(book, things[:1])), 1500)

    def test_just_over_is_one_more(self):
        # The same search by the model, which knows no bound.
        for things, book in JUST_OVER[:2]:
            self.assertEqual(len(model.stands_of(book, things)), 1501)

    def test_new_each_time(self):
        first = lasting(stands_of(SMALL, (A, B)))
        found = stands_of(SMALL, (A, B))
        for _, run in found:
            run.append(0)
        found.clear()
        stands_of(SWAP, (A, B))
        self.assertEqual(lasting(stands_of(SMALL, (A, B))), first)


class IsClosedTest(unittest.TestCase):

    def test_of_the_list(self):
        chance = random.Random(56)
        for book in BOOKS[:5] + (SMALL,) + tuple(chance_books(57, 25, marks=2, notes=1)):
            for things in things_of(book)[:7:2]:
                stands = [stand for stand, _ in stands_of(book, things)]
                before = lasting(stands)
                self.assertIs(is_closed(book, things, stands), True)
                self.assertEqual(lasting(stands), before)
                chance.shuffle(stands)
                self.assertIs(is_closed(book, things, stands), True)
                self.assertIs(is_closed(book, things, stands[::-1]), True)
                self.assertIs(is_closed(book, things, tuple(stands)), False)
                self.assertIs(is_closed(book, things, stands + stands[:1]), False)
                self.assertIs(is_closed(book, things, stands + [None]), False)

    def test_one_out(self):
        for book in (ASK, SMALL, FRONT):
            for things in ((A,), (A, B)):
                stands = [stand for stand, _ in stands_of(book, things)]
                for at in range(len(stands)):
                    self.assertIs(is_closed(book, things, stands[:at] + stands[at + 1:]), False)

    def test_twice_or_otherwise(self):
        things = (A, B)
        stands = [stand for stand, _ in stands_of(SMALL, things)]
        for at, stand in enumerate(stands):
            self.assertIs(is_closed(SMALL, things, stands[:at + 1] + stands[at:]), False)
            for value in variants(stand):
                if lasting(value) == lasting(stand):
                    continue
                changed = stands[:at] + [value] + stands[at + 1:]
                # Another stand in its place is missing where it came from, or is there twice.
                self.assertIs(is_closed(SMALL, things, changed), False, value)

    def test_one_more(self):
        # Stands to which no run leads may be in the list, if what follows them is.
        book = ((0,), 2, 1, 1, (((), ()), ((0,), (("first", 0),))))
        stands = [stand for stand, _ in stands_of(book, (A,))]
        other = (((A,),), ((A, 1),), ())
        self.assertIs(is_closed(book, (A,), stands + [other]), True)
        self.assertIs(is_closed(book, (A,), [other] + stands), True)
        self.assertIs(is_closed(book, (A,), [other] + stands + [other]), False)
        self.assertIs(is_closed(book, (A,), stands[1:] + [other]), False)
        # Of other things, or things of another rulebook.
        self.assertIs(is_closed(book, (A,), stands + [(((B,),), ((B, 0),), ())]), False)
        self.assertIs(is_closed(book, (A,), stands + [(((A,),), ((A, 2),), ())]), False)
        self.assertIs(is_closed(book, (A,), stands + [(((A,),), ((A, True),), ())]), False)
        self.assertIs(is_closed(book, (A,), stands + [((((False, 0),),), (((False, 0), 1),), ())]), False)
        self.assertIs(is_closed(book, (A,), [[(), (), ()]] + stands), False)
        moved = ((0,), 2, 1, 1, (((), ()), ((0,), (("first", 0),)), ((1,), (("mark", (0, 0)),))))
        self.assertIs(is_closed(moved, (A,), stands + [other]), True)
        away = ((0,), 3, 1, 1, (((), ()), ((1,), (("mark", (0, 2, 0)),))))
        self.assertIs(is_closed(away, (A,), stands + [other]), False)

    def test_of_fewer_or_more_things(self):
        two = [stand for stand, _ in stands_of(SMALL, (A, B))]
        one = [stand for stand, _ in stands_of(SMALL, (A,))]
        self.assertIs(is_closed(SMALL, (A,), two), False)
        self.assertIs(is_closed(SMALL, (A, B), one), False)
        self.assertIs(is_closed(SMALL, (A, C), two), False)

    def test_of_any_value(self):
        for value in any_values() + [(((),), (), ()), [(((),), (), ())], {(((),), (), ()): 1}, [(((),), (), ()), 5], [[]], [None]]:
            self.assertIs(is_closed(SWAP, (A,), value), False, value)
        self.assertIs(is_closed(SWAP, (A,), [(((),), (), ()), (((A,),), ((A, 0),), ())]), True)

    def test_a_long_one(self):
        for many, things, book in JUST:
            stands = [stand for stand, _ in stands_of(book, things)]
            self.assertIs(is_closed(book, things, stands), True)
            self.assertIs(is_closed(book, things, stands[:-1]), False)


if __name__ == "__main__":
    unittest.main()
