"""[27]: twins, and the moment by which a thing stands."""

import itertools
import random
import unittest

from ownmoment.errors import Bothered, TooMany
from ownmoment.runs import is_run, stand_behind
from ownmoment.twins import critical_at, live_at, twins_run
from tests import model
from tests.machine_books import APART_BOOK, COME_BOOK, ELDER_BOOK, KNOWN, SORT_BOOK, USE_BOOK
from tests.samples import ASK, FRONT, LEAST, PASS, SWAP, chance_books, lasting
from tests.test_bothers import MANY

A, B, K, M = (0, 0), (0, 1), (1, 0), (1, 1)


def brute_critical(book, row, kind, past):
    """All indexes with which the twins stand otherwise, by the definitions alone."""
    rows = {}
    for index in [None, *range(len(past) + 1)]:
        run = []
        for moment, deed in enumerate((0, *past)):
            pair = [(deed, (kind, 0)), (deed, (kind, 1))]
            run += reversed(pair) if moment == index else pair
        rows[index] = model.done(book, run)[0].rows[row]
    return [index for index in range(len(past) + 1) if rows[index] != rows[None]]


def pasts_of(book, kind, length):
    """All pasts of so many deeds."""
    found = []
    for past in itertools.product(range(1, len(book[4])), repeat=length):
        if model.wrong_at(book, [(deed, (kind, 0)) for deed in (0, *past)]) is None:
            found.append(past)
    return found


def brute_live(book, row, kind, past, depth):
    found = set()
    for more in range(depth + 1):
        for further in itertools.product(range(1, len(book[4])), repeat=more):
            if model.wrong_at(book, [(deed, (kind, 0)) for deed in (0, *past, *further)]) is None:
                found |= set(brute_critical(book, row, kind, past + further))
    return tuple(sorted(index for index in found if index <= len(past)))


class TwinsRunTest(unittest.TestCase):

    def test_each_index(self):
        self.assertEqual(twins_run(0, (), None), [(0, A), (0, B)])
        self.assertEqual(twins_run(0, (), 0), [(0, B), (0, A)])
        self.assertEqual(twins_run(1, (2, 1), None), [(0, K), (0, M), (2, K), (2, M), (1, K), (1, M)])
        self.assertEqual(twins_run(1, (2, 1), 0), [(0, M), (0, K), (2, K), (2, M), (1, K), (1, M)])
        self.assertEqual(twins_run(1, (2, 1), 1), [(0, K), (0, M), (2, M), (2, K), (1, K), (1, M)])
        self.assertEqual(twins_run(1, (2, 1), 2), [(0, K), (0, M), (2, K), (2, M), (1, M), (1, K)])

    def test_they_are_runs(self):
        for index in (None, 0, 1, 2, 3):
            run = twins_run(0, (1, 2, 2), index)
            self.assertIs(type(run), list)
            self.assertIs(is_run(SORT_BOOK, run), True)
            run.clear()
            self.assertEqual(len(twins_run(0, (1, 2, 2), index)), 8)


class CriticalTest(unittest.TestCase):

    def test_by_hand(self):
        for past in ((), (1,), (1, 1, 1)):
            self.assertEqual(critical_at(COME_BOOK, 0, 0, past), 0)
            self.assertEqual(live_at(COME_BOOK, 0, 0, past), (0,))
            self.assertEqual(critical_at(USE_BOOK, 0, 0, past), len(past))
            self.assertEqual(live_at(USE_BOOK, 0, 0, past), (len(past),))
        self.assertEqual(critical_at(LEAST, 0, 0, ()), 0)
        for past, at, live in (((), 0, (0,)), ((1,), 0, (0, 1)), ((1, 2), 1, (1,))):
            # By the moment of asking alone, once it is put ahead; before, this one counts only later.
            self.assertEqual(critical_at(ELDER_BOOK, 0, 0, past), at)
            self.assertEqual(live_at(ELDER_BOOK, 0, 0, past), live)

    def test_by_another_deed(self):
        # The same with the two deeds exchanged: the moment of asking counts behind deed 1 alone.
        book = ELDER_BOOK[:4] + ((ELDER_BOOK[4][0], ELDER_BOOK[4][2], ELDER_BOOK[4][1]),)
        for past, at, live in (((), 0, (0,)), ((2,), 0, (0, 1)), ((2, 1), 1, (1,))):
            self.assertEqual(critical_at(book, 0, 0, past), at)
            self.assertEqual(live_at(book, 0, 0, past), live)

    def test_two_rows(self):
        for past, first, second in (((), 0, 0), ((1,), 1, 0), ((2,), 0, 1), ((1, 2), 1, 2), ((2, 1, 1), 3, 1), ((1, 2, 2, 1, 2), 4, 5)):
            self.assertEqual([critical_at(APART_BOOK, row, 0, past) for row in (0, 1)], [first, second])
            self.assertEqual([live_at(APART_BOOK, row, 0, past) for row in (0, 1)], [(first,), (second,)])

    def test_long_pasts(self):
        past = (1, 2) * 14
        self.assertEqual(critical_at(SORT_BOOK, 0, 0, past), 28)
        self.assertEqual(critical_at(APART_BOOK, 0, 0, past), 27)
        self.assertEqual(critical_at(FRONT, 0, 0, (1,) * 29), 29)
        self.assertEqual(live_at(COME_BOOK, 0, 0, (1,) * 29), (0,))

    def test_as_the_definitions_say(self):
        many = 0
        books = [book for book, _, _ in KNOWN] + [ASK, PASS, FRONT] + chance_books(211, 70)
        for book in books:
            if model.bother_within(book, 3):
                continue
            try:
                for kind in range(len(book[0])):
                    critical_at(book, 0, kind, ())
            except (Bothered, TooMany):
                continue
            before = lasting(book)
            chance = random.Random(212)
            for kind, row, length in itertools.product(range(len(book[0])), range(book[2]), range(4)):
                pasts = pasts_of(book, kind, length)
                for past in chance.sample(pasts, min(2, len(pasts))):
                    found = brute_critical(book, row, kind, past)
                    self.assertEqual(len(found), 1)
                    self.assertEqual(critical_at(book, row, kind, past), found[0])
                    live = live_at(book, row, kind, past)
                    self.assertIs(type(live), tuple)
                    self.assertIn(found[0], live)
                    if length < 3 and len(book[4]) < 4:
                        self.assertEqual(live, brute_live(book, row, kind, past, 3))
                    many += 1
            self.assertEqual(lasting(book), before)
        self.assertGreater(many, 100)


class ErrorsTest(unittest.TestCase):

    def test_bothered(self):
        for call in (lambda: critical_at(SWAP, 0, 0, ()), lambda: live_at(SWAP, 0, 0, (1, 1))):
            with self.assertRaises(Bothered) as caught:
                call()
            error = caught.exception
            run = [(0, (0, 0)), (0, (0, 1)), (0, (0, 2)), (1, (0, 2))]
            self.assertEqual((error.run, error.some, error.at), (run, ((0, 0), (0, 2)), 0))
            # The run is the caller's own.
            error.run.clear()
            with self.assertRaises(Bothered) as again:
                call()
            self.assertEqual(again.exception.run, run)

    def test_too_many(self):
        # Bothered as well; which of the pools has too many does not matter.
        for call in (lambda: critical_at(MANY, 0, 0, ()), lambda: live_at(MANY, 1, 1, (1,))):
            with self.assertRaises(TooMany) as caught:
                call()
            self.assertEqual(caught.exception.most, 1500)

    def test_whatever_was_asked_between(self):
        self.assertEqual(live_at(ELDER_BOOK, 0, 0, (1,)), (0, 1))
        stand_behind(ELDER_BOOK, twins_run(0, (1, 2), 1))
        self.assertEqual(critical_at(ELDER_BOOK, 0, 0, (1, 2)), 1)
        self.assertEqual(live_at(ELDER_BOOK, 0, 0, (1,)), (0, 1))


if __name__ == "__main__":
    unittest.main()
