"""[15]: stands."""

import random
import unittest

from ownmoment.books import is_thing
from ownmoment.errors import NotThere
from ownmoment.stands import cut_stand, is_ahead_in, is_stand, mark_in, note_in, things_in
from tests import model
from tests.samples import BOOKS, NARROW, SWAP, WIDE, any_values, chance_books, chance_run, lasting, variants

A, B, C = (0, 0), (0, 4), (1, 0)
STAND = (
    ((B, A, C), (C, B, A)),
    ((A, 0), (B, 2), (C, 1)),
    ((A, B, 0), (A, C, 1), (B, A, 1), (B, C, 0), (C, A, 1), (C, B, 1)),
)
EMPTY = (((), ()), (), ())


class IsStandTest(unittest.TestCase):

    def check(self, book, value, good):
        self.assertIs(model.ok_stand(book, value), good, value)
        self.assertIs(is_stand(book, value), good, value)

    def test_good_ones(self):
        self.check(WIDE, STAND, True)
        self.check(WIDE, EMPTY, True)
        self.check(SWAP, (((),), (), ()), True)
        # No run leads there, but the form is right.
        self.check(WIDE, (((C,), (C,)), ((C, 0),), ()), True)
        chance = random.Random(21)
        for book in BOOKS + tuple(chance_books(22, 60)):
            stand = model.done(book, chance_run(chance, book, 15))[0].stand()
            before = lasting(stand)
            self.check(book, stand, True)
            self.assertEqual(lasting(stand), before)

    def test_one_place_otherwise(self):
        for book, stand in ((WIDE, STAND), (WIDE, EMPTY), (SWAP, ((((0, 1),),), (((0, 1), 0),), ())), (NARROW, (((A, B),), ((A, 0), (B, 1)), ((A, B, 2), (B, A, 0))))):
            many = [0, 0]
            for value in variants(stand):
                good = model.ok_stand(book, value)
                many[good] += 1
                self.assertIs(is_stand(book, value), good, value)
            self.assertGreater(many[False], many[True])

    def test_any_values(self):
        for book in (WIDE, SWAP):
            for value in any_values():
                self.check(book, value, value == (((),), (), ()) and type(value) is tuple and book is SWAP)

    def test_of_another_rulebook(self):
        self.check(SWAP, STAND, False)
        self.check(SWAP, EMPTY, False)
        self.check(WIDE, (((),), (), ()), False)
        self.check(SWAP, (((C,),), ((C, 0),), ()), False)
        self.check(SWAP, (((A,),), ((A, 1),), ()), False)
        self.check(SWAP, (((A, B),), ((A, 0), (B, 0)), ((A, B, 1), (B, A, 0))), False)

    def test_things(self):
        rows, marks, notes = STAND
        for bad in ((B, A), (B, A, C, C), (B, A, A), (B, A, C, (0, 5)), (B, A, (0, 5)), (B, A, [1, 0]), (B, A, (True, 0)), (B, (False, 0), C),
                    (B, A, (1, False)), [B, A, C], (B, A, C, None), (B, A, (1, 0, 0)), (B, A, (2, 0)), (B, A, (1, 10000)), (B, A, "1.0")):
            self.check(WIDE, ((bad, rows[1]), marks, notes), False)
            self.check(WIDE, ((rows[0], bad), marks, notes), False)
            self.check(WIDE, ((bad, bad), marks, notes), False)
        self.check(WIDE, (rows[:1], marks, notes), False)
        self.check(WIDE, (rows + rows[:1], marks, notes), False)
        self.check(WIDE, (list(rows), marks, notes), False)
        self.check(WIDE, ((), marks, notes), False)
        self.check(WIDE, (rows[::-1], marks, notes), True)

    def test_marks_and_notes(self):
        rows, marks, notes = STAND
        for bad in (marks[:-1], marks[1:], marks + marks[-1:], marks[::-1], (marks[1], marks[0], marks[2]), list(marks), (),
                    marks[:2] + ((C, 3),), marks[:2] + ((C, -1),), marks[:2] + ((C, True),), marks[:2] + ([C, 1],), marks[:2] + ((C,),),
                    marks[:2] + ((C, 1, 1),), marks[:2] + (((1, False), 1),), marks[:2] + (((True, 0), 1),), marks[:2] + (((1, 1), 1),), None,
                    marks + (((1, 1), 0),), marks[:2] + (([1, 0], 1),), marks[:2] + ((C, None),)):
            self.check(WIDE, (rows, bad, notes), False)
        for at in range(6):
            x, y, note = notes[at]
            for other in ((x, y), (x, y, note, note), (y, x, note), (x, x, note), (x, y, 2), (x, y, -1), (x, y, bool(note)), [x, y, note],
                          (x, y, None), ((bool(x[0]), x[1]), y, note), (x, (y[0], bool(y[1])) if y[1] < 2 else None, note), (x, (0, 7), note)):
                self.check(WIDE, (rows, marks, notes[:at] + (other,) + notes[at + 1:]), False)
            self.check(WIDE, (rows, marks, notes[:at] + notes[at + 1:]), False)
            self.check(WIDE, (rows, marks, notes[:at] + (notes[at],) + notes[at:]), False)
            self.check(WIDE, (rows, marks, notes[:at] + ((x, y, 1 - note),) + notes[at + 1:]), True)
        for bad in (notes[::-1], list(notes), (), None, (notes[1], notes[0]) + notes[2:]):
            self.check(WIDE, (rows, marks, bad), False)

    def test_great_ones(self):
        things = tuple((0, number) for number in range(60))
        stand = ((things[::-1],), tuple((x, 0) for x in things), tuple((x, y, 0) for x in things for y in things if x != y))
        self.assertIs(is_stand(SWAP, stand), True)
        self.assertIs(is_stand(SWAP, (stand[0], stand[1], stand[2][:-1] + (stand[2][-1][:2] + (1,),))), False)
        things = tuple((0, number) for number in range(6000))
        self.assertIs(is_stand(SWAP, ((things,), (), ())), False)


class AskingTest(unittest.TestCase):

    def test_things_in(self):
        self.assertEqual(things_in(STAND), (A, B, C))
        self.assertEqual(things_in(EMPTY), ())

    def test_marks_notes_and_rows(self):
        self.assertEqual([mark_in(STAND, x) for x in (A, B, C)], [0, 2, 1])
        self.assertEqual([note_in(STAND, x, y) for x, y, _ in STAND[2]], [0, 1, 1, 0, 1, 1])
        for row, order in enumerate(STAND[0]):
            for x in order:
                for y in order:
                    if x != y:
                        self.assertIs(is_ahead_in(STAND, row, x, y), order.index(x) < order.index(y))

    def test_as_the_model_has_it(self):
        chance = random.Random(23)
        for book in BOOKS + tuple(chance_books(24, 40)):
            world = model.done(book, chance_run(chance, book, 15))[0]
            stand = world.stand()
            before = lasting(stand)
            self.assertEqual(things_in(stand), tuple(sorted(world.marks)))
            for x in world.marks:
                self.assertEqual(mark_in(stand, x), world.marks[x])
                for y in world.marks:
                    if x != y:
                        self.assertEqual(note_in(stand, x, y), world.notes[x, y])
                        for row, order in enumerate(world.rows):
                            self.assertIs(is_ahead_in(stand, row, x, y), order.index(x) < order.index(y))
            self.assertEqual(lasting(stand), before)

    def refused(self, bad, ask, *given):
        with self.assertRaises(NotThere) as caught:
            ask(*given)
        self.assertIs(caught.exception.thing, bad)

    def test_what_is_not_there(self):
        for value in any_values() + [(0, 5), (1, 1), (False, 0), (0, False), (True, 0), (1, False), [0, 0], (0, 0, 0), B + (0,), "0.0"]:
            if is_thing(value) and value in STAND[0][0]:
                continue
            self.refused(value, mark_in, STAND, value)
            self.refused(value, note_in, STAND, value, A)
            self.refused(value, note_in, STAND, A, value)
            self.refused(value, is_ahead_in, STAND, 1, value, A)
            self.refused(value, is_ahead_in, STAND, 0, A, value)
            other = [5]
            self.refused(value, note_in, STAND, value, other)
            self.refused(other, note_in, STAND, other, value)
            self.refused(value, is_ahead_in, STAND, 0, value, other)
            self.refused(other, is_ahead_in, STAND, 0, other, value)
            self.refused(value, mark_in, EMPTY, value)

    def test_a_thing_and_its_like_by_truths(self):
        like = (False, 0)
        self.refused(like, note_in, STAND, A, like)
        self.refused(like, is_ahead_in, STAND, 0, like, A)
        self.refused(like, is_ahead_in, STAND, 0, B, like)


class CutStandTest(unittest.TestCase):

    def test_by_hand(self):
        self.assertEqual(cut_stand(STAND, (A, B, C)), STAND)
        self.assertEqual(cut_stand(STAND, ()), EMPTY)
        self.assertEqual(cut_stand(STAND, ((0, 1), (1, 9))), EMPTY)
        self.assertEqual(cut_stand(STAND, (A, C)), (((A, C), (C, A)), ((A, 0), (C, 1)), ((A, C, 1), (C, A, 1))))
        self.assertEqual(cut_stand(STAND, ((0, 3), B, (0, 9), C, (1, 1))), (((B, C), (C, B)), ((B, 2), (C, 1)), ((B, C, 0), (C, B, 1))))
        self.assertEqual(cut_stand(STAND, (B,)), (((B,), (B,)), ((B, 2),), ()))
        self.assertEqual(cut_stand(EMPTY, (A, B)), EMPTY)

    def test_as_the_model_has_it(self):
        chance = random.Random(25)
        for book in BOOKS + tuple(chance_books(26, 60)):
            world = model.done(book, chance_run(chance, book, 15))[0]
            stand = world.stand()
            before = lasting(stand)
            for _ in range(8):
                some = tuple(sorted(chance.sample(sorted(world.marks) + [(0, 77), (1, 78)], chance.randrange(3))))
                self.assertEqual(cut_stand(stand, some), world.stand(some))
            self.assertEqual(lasting(stand), before)


if __name__ == "__main__":
    unittest.main()
