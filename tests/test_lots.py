"""[22]: which deeds can be had together without a bother."""

import itertools
import unittest

from ownmoment.bothers import bother_of, is_unbothered
from ownmoment.books import limited_book
from ownmoment.errors import TooMany
from ownmoment.lots import bothering_lots, free_lots
from tests.samples import ALWAYS, ASK, FRONT, JUST_OVER, LEAST, PASS, SWAP, chance_books, lasting
from tests.test_bothers import MANY, QUIET_MANY

UP, DOWN, FIRST, LAST = (("up", 0),), (("down", 0),), (("first", 0),), (("last", 0),)


def with_deeds(*statements, coming=(), marks=1):
    return ((0,), marks, 1, 1, (((), coming),) + tuple((tuple(range(marks)), one) for one in statements))


def by_definition(book):
    """The greatest free lots and the least lots that are not free, each lot being looked at."""
    deeds = range(1, len(book[4]))
    lots = [(0, *some) for size in range(len(deeds) + 1) for some in itertools.combinations(deeds, size)]
    free = {lot: is_unbothered(limited_book(book, lot)) for lot in lots}
    greatest = [lot for lot in lots if free[lot]
                and not any(free[tuple(sorted((*lot, deed)))] for deed in deeds if deed not in lot)]
    least = [lot for lot in lots if not free[lot]
             and all(free[tuple(one for one in lot if one != deed)] for deed in lot if deed)]
    return sorted(greatest), sorted(least)


class LotsTest(unittest.TestCase):

    def check(self, book, greatest, least):
        self.assertEqual(by_definition(book), (greatest, least))
        self.check_asked(book, greatest, least)

    def check_asked(self, book, greatest, least):
        before = lasting(book)
        self.assertEqual(free_lots(book), greatest)
        self.assertEqual(bothering_lots(book), least)
        self.assertEqual(lasting(book), before)

    def test_by_hand(self):
        self.check(LEAST, [(0,)], [])
        self.check(FRONT, [(0, 1)], [])
        self.check(PASS, [(0, 1)], [])
        self.check(SWAP, [(0,)], [(0, 1)])
        self.check(with_deeds(FIRST, UP, LAST, DOWN), [(0, 1, 3)], [(0, 2), (0, 4)])
        self.check(with_deeds(FIRST, LAST, FIRST, LAST, ()), [(0, 1, 2, 3, 4, 5)], [])
        self.check(with_deeds(UP, DOWN, UP, DOWN, UP), [(0,)], [(0, 1), (0, 2), (0, 3), (0, 4), (0, 5)])

    def test_deeds_that_only_bother_together(self):
        # Deed 1 makes a mark; deed 2 moves by it, deed 3 another way by it, deed 4 needs the mark of deed 3.
        book = ((0,), 3, 1, 1, (
            ((), ()), ((0,), (("mark", (1, 1, 1)),)), ((1,), UP), ((0,), (("mark", (2, 2, 2)),)), ((2,), DOWN), ((0, 1, 2), FIRST)))
        self.check(book, [(0, 1, 3, 5), (0, 1, 4, 5), (0, 2, 3, 5), (0, 2, 4, 5)], [(0, 1, 2), (0, 3, 4)])
        late = ((0,), 3, 1, 1, (((), ()), ((0,), (("mark", (1, 1, 1)),)), ((1,), (("mark", (2, 2, 2)),)), ((2,), UP)))
        self.check(late, [(0, 1, 2), (0, 1, 3), (0, 2, 3)], [(0, 1, 2, 3)])

    def test_coming_alone_is_not_free(self):
        for book in (with_deeds(coming=UP), with_deeds(FIRST, coming=UP), with_deeds(FIRST, UP, coming=UP),
                     with_deeds(FIRST, coming=(("marks", (ALWAYS,), (1, 1)),), marks=2)):
            self.check(book, [], [(0,)])

    def test_by_definition(self):
        kinds = {}
        for book in chance_books(81, 80, marks=2, notes=1, rows=1, deeds=4) + chance_books(82, 30, deeds=3, notes=1) \
                + chance_books(83, 12, kinds=1, marks=3, rows=1, notes=1, deeds=6, most=2) + [ASK]:
            try:
                greatest, least = by_definition(book)
            except TooMany:
                continue
            self.check_asked(book, greatest, least)
            kinds[(len(greatest), len(least))] = True
        self.assertGreater(len(kinds), 4)

    def test_in_order(self):
        for book in chance_books(84, 30, kinds=1, marks=2, notes=1, rows=1, deeds=5, most=2):
            for lots in (free_lots(book), bothering_lots(book)):
                self.assertEqual(lots, sorted(set(lots)))
                for lot in lots:
                    self.assertEqual((lot[0], type(lot), list(lot)), (0, tuple, sorted(set(lot))))

    def test_too_many(self):
        for book in [book for things, book in JUST_OVER if len(book[0]) == 1 and len(things) == 3] + [MANY, QUIET_MANY]:
            with self.assertRaises(TooMany):
                bother_of(book)
            for ask in (free_lots, bothering_lots):
                with self.assertRaises(TooMany) as caught:
                    ask(book)
                self.assertEqual(caught.exception.most, 1500)
            # Smaller lots have fewer stands.
            self.assertIn(is_unbothered(limited_book(book, (0,))), (True, False))
            self.assertIsNotNone(free_lots(limited_book(book, (0,))))

    def test_new_each_time(self):
        for ask, wanted in ((free_lots, [(0, 1, 3)]), (bothering_lots, [(0, 2), (0, 4)])):
            book = with_deeds(FIRST, UP, LAST, DOWN)
            ask(book).clear()
            ask(SWAP)
            self.assertEqual(ask(book), wanted)


if __name__ == "__main__":
    unittest.main()
