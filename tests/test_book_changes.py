"""[11]: rulebooks made of a rulebook, and the marks that a thing has by itself."""

import itertools
import random
import unittest

from ownmoment.books import is_book, limited_book, mirrored_book, own_marks, with_marks
from ownmoment.errors import TooMany
from tests import model
from tests.samples import (
    ALWAYS, ASK, BOOKS, LEAST, NARROW, SWAP, WIDE, chance_books, chance_run, full_book, lasting)


def marks_by_runs(book):
    """The tuples (kind, mark) behind runs of one thing alone, by the model."""
    found = set()
    for kind in range(len(book[0])):
        for stand, _ in model.stands_of(book, ((kind, 3),)):
            found |= {(x[0], mark) for x, mark in stand[1]}
    return sorted(found)


class OwnMarksTest(unittest.TestCase):

    def test_by_hand(self):
        self.assertEqual(own_marks(LEAST), [(0, 0)])
        self.assertEqual(own_marks(ASK), [(0, 0), (0, 1)])
        # What one does to others is nothing that it does to itself.
        others = ((0,), 2, 1, 1, (((), ()), ((0,), (("marks", (ALWAYS,), (1, 1)),))))
        self.assertEqual(own_marks(others), [(0, 0)])
        # Behind coming, the mark of begin may be gone.
        changed = ((0, 2), 3, 1, 1, (((), (("mark", (1, 1, 2)),)),))
        self.assertEqual(own_marks(changed), [(0, 1), (1, 2)])

    def test_deeds_that_are_not_let(self):
        book = ((0,), 4, 1, 1, (((), ()), ((0,), (("mark", (1, 0, 0, 0)),)), ((2, 3), (("mark", (3, 3, 3, 3)),)), ((), (("mark", (2,) * 4),))))
        self.assertEqual(own_marks(book), [(0, 0), (0, 1)])

    def test_both_branches(self):
        def book(begin):
            return (begin, 5, 2, 1, (((), (("if", (0,), (("mark", (1, 4, 4, 4, 4)),), (("mark", (4, 4, 3, 2, 4)),)),)),
                                     ((1, 2), (("if", (2,), (("up", 0), ("mark", (4, 4, 0, 4, 4))), (("mark", (0, 2, 0, 0, 0)), ("mark", (0, 0, 1, 0, 0)))),))))
        self.assertEqual(own_marks(book((0,))), [(0, 1)])
        self.assertEqual(own_marks(book((3,))), [(0, 0), (0, 2)])
        self.assertEqual(own_marks(book((0, 3))), [(0, 1), (1, 0), (1, 2)])
        self.assertEqual(own_marks(book((3, 2))), [(0, 0), (0, 2), (1, 3)])

    def test_what_follows_in_the_same_deed(self):
        book = ((0,), 3, 1, 1, (((), ()), ((0,), (("mark", (1, 2, 2)), ("if", (1,), (("mark", (2, 2, 2)),), ())))))
        self.assertEqual(own_marks(book), [(0, 0), (0, 2)])

    def test_as_the_model_has_it(self):
        for book in BOOKS:
            self.assertEqual(own_marks(book), marks_by_runs(book))
        for book in chance_books(2, 250, deeds=3) + chance_books(3, 80, marks=5, deeds=4, kinds=2):
            self.assertEqual(own_marks(book), marks_by_runs(book), book)

    def test_new_each_time(self):
        found = own_marks(WIDE)
        found.append(0)
        self.assertEqual(own_marks(WIDE), marks_by_runs(WIDE))


class LimitedTest(unittest.TestCase):

    def test_by_hand(self):
        begin, marks, rows, notes, deeds = WIDE
        before = lasting(WIDE)
        for size in range(5):
            for rest in itertools.combinations(range(1, 5), size):
                some = (0, *rest)
                limited = limited_book(WIDE, some)
                self.assertEqual(limited, (begin, marks, rows, notes, tuple(deeds[deed] for deed in some)))
                self.assertTrue(model.ok_book(limited))
        self.assertEqual(limited_book(WIDE, (0, 1, 2, 3, 4)), WIDE)
        self.assertEqual(limited_book(SWAP, (0,)), ((0,), 1, 1, 1, (((), ()),)))
        self.assertEqual(lasting(WIDE), before)


class WithMarksTest(unittest.TestCase):

    def test_by_hand(self):
        book = ((0, 2), 3, 1, 2, (
            ((), (("mark", (1, 2, 2)),)),
            ((0, 2), (
                ("if", (1, 2), (("marks", (((0, 1), (0, 2), (0, 1), (0, 1), 1),), (0, 0, 1)),), (("pass", 0, (((1,), (), (), (), 0),)),)),
                ("notes", (((2,), (1, 2), (), (1,), 2),), (1, 0), (0, 0)),
                ("first", 0),
            )),
        ))
        # 0 becomes 2, 1 becomes 0, 2 becomes 1.
        self.assertEqual(with_marks(book, (2, 0, 1)), ((2, 1), 3, 1, 2, (
            ((), (("mark", (1, 1, 0)),)),
            ((1, 2), (
                ("if", (0, 1), (("marks", (((0, 2), (1, 2), (0, 1), (0, 1), 1),), (2, 0, 2)),), (("pass", 0, (((0,), (), (), (), 0),)),)),
                ("notes", (((1,), (0, 1), (), (1,), 2),), (1, 0), (0, 0)),
                ("first", 0),
            )),
        )))

    def test_any_order_of_the_marks(self):
        chance = random.Random(4)
        for book in BOOKS + tuple(chance_books(5, 30)):
            before = lasting(book)
            self.assertEqual(with_marks(book, tuple(range(book[1]))), book)
            for table in itertools.permutations(range(book[1])):
                made = with_marks(book, table)
                self.assertTrue(model.ok_book(made), made)
                self.assertTrue(is_book(made))
                back = tuple(table.index(mark) for mark in range(book[1]))
                self.assertEqual(with_marks(made, back), book)
                run = chance_run(chance, book, 12)
                _, steps = model.done(book, run)
                self.assertIsNone(model.wrong_at(made, run))
                _, others = model.done(made, run)
                for one, other in zip(steps, others):
                    named = [(place, (rows, tuple((x, table[mark]) for x, mark in marks), notes)) for place, (rows, marks, notes) in one]
                    self.assertEqual(other, named)
            self.assertEqual(lasting(book), before)


class MirroredTest(unittest.TestCase):

    def test_by_hand(self):
        book = ((0,), 2, 2, 1, (
            ((), (("up", 1), ("mark", (1, 1)))),
            ((0, 1), (
                ("first", 0), ("last", 1), ("down", 0), ("pass", 0, (((0,), (1,), (0,), (0,), 1), ((), (), (), (), 2), ALWAYS)),
                ("yield", 1, ()), ("leap", 0, ()), ("fall", 1, (((), (), (), (), 1),)),
                ("if", (1,), (("marks", (((), (), (), (), 1),), (1, 0)),), (("notes", (((), (), (), (), 2),), (0,), (0,)), ("up", 0))),
            )),
        ))
        before = lasting(book)
        self.assertEqual(mirrored_book(book), ((0,), 2, 2, 1, (
            ((), (("first", 0), ("first", 1), ("down", 1), ("mark", (1, 1)))),
            ((0, 1), (
                ("last", 0), ("first", 1), ("up", 0), ("yield", 0, (((0,), (1,), (0,), (0,), 2), ((), (), (), (), 1), ALWAYS)),
                ("pass", 1, ()), ("fall", 0, ()), ("leap", 1, (((), (), (), (), 2),)),
                ("if", (1,), (("marks", (((), (), (), (), 2),), (1, 0)),), (("notes", (((), (), (), (), 1),), (0,), (0,)), ("down", 0))),
            )),
        )))
        self.assertEqual(lasting(book), before)
        self.assertEqual(mirrored_book(SWAP), ((0,), 1, 1, 1, (((), (("first", 0),)), ((0,), (("down", 0),)))))
        self.assertEqual(mirrored_book(LEAST)[4], (((), (("first", 0),)),))

    def test_rows_are_reversed_behind_runs(self):
        chance = random.Random(6)
        for book in BOOKS + tuple(chance_books(7, 120)) + tuple(chance_books(8, 60, rows=2, marks=2, notes=2)):
            made = mirrored_book(book)
            self.assertTrue(model.ok_book(made))
            for _ in range(4):
                run = chance_run(chance, book, 14)
                self.assertIsNone(model.wrong_at(made, run))
                rows, marks, notes = model.done(book, run)[0].stand()
                self.assertEqual(model.done(made, run)[0].stand(), (tuple(row[::-1] for row in rows), marks, notes))

    def test_too_many_statements(self):
        for rows in (1, 2):
            for many in range(9):
                book = ((0,), 1, rows, 1, (((), (("up", 0),) * many), ((0,), (("up", 0),) * 8)))
                if many + rows > 8:
                    with self.assertRaises(TooMany) as caught:
                        mirrored_book(book)
                    self.assertEqual(caught.exception.most, 8)
                else:
                    made = mirrored_book(book)
                    self.assertEqual(len(made[4][0][1]), many + rows)
                    self.assertTrue(model.ok_book(made))
                    self.assertEqual(made[4][1][1], (("down", 0),) * 8)
        with self.assertRaises(TooMany):
            mirrored_book(full_book())
        # One line may hold many statements: an "if" counts as one.
        inner = (("up", 0),) * 6
        book = ((0,), 1, 2, 1, (((), (("if", (0,), inner, inner),) * 6),))
        self.assertEqual(len(mirrored_book(book)[4][0][1]), 8)
        self.assertIsNotNone(mirrored_book(NARROW))


if __name__ == "__main__":
    unittest.main()
