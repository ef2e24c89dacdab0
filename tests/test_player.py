"""[16]: the player, and with it what statements do [2]."""

import itertools
import random
import unittest

from ownmoment.errors import IsThere, NotLet, NotThere, Nothing, Wrong
from ownmoment.player import Player
from tests import model
from tests.samples import (
    ALWAYS, ASK, BOOKS, FRONT, LEAST, NARROW, PASS, SWAP, WIDE, any_values, chance_books, chance_run, full_book,
    lasting)

A, B, C, D = (0, 0), (0, 1), (0, 2), (0, 3)


def one_deed(*statements, begin=(0,), marks=1, rows=1, notes=1, coming=(), let=None):
    """A rulebook with one deed beside coming, let at all marks."""
    return (begin, marks, rows, notes, (((), tuple(coming)), (tuple(range(marks)) if let is None else let, statements)))


def played(book, *run):
    player = Player(book)
    for deed, thing in run:
        assert player.do(deed, thing) is None
    return player


def all_come(*things):
    return [(0, x) for x in things]


def held(player):
    """All that a player tells."""
    run = player.run_done()
    return (run, player.last_steps(), player.stand_now())


class StatementsTest(unittest.TestCase):

    def rows_behind(self, book, come, *run):
        player = played(book, *all_come(*come), *run)
        return tuple(player.row_now(row) for row in range(book[2]))

    def test_first_last_up_down(self):
        for x, orders in ((A, ((A, B, C, D), (B, C, D, A), (A, B, C, D), (B, A, C, D))),
                          (B, ((B, A, C, D), (A, C, D, B), (B, A, C, D), (A, C, B, D))),
                          (D, ((D, A, B, C), (A, B, C, D), (A, B, D, C), (A, B, C, D)))):
            for word, order in zip(("first", "last", "up", "down"), orders):
                self.assertEqual(self.rows_behind(one_deed((word, 0)), (A, B, C, D), (1, x)), (order,))
                for row in (0, 1):
                    rows = [(A, B, C, D), (A, B, C, D)]
                    rows[row] = order
                    self.assertEqual(self.rows_behind(one_deed((word, row), rows=2), (A, B, C, D), (1, x)), tuple(rows))
        for word in ("first", "last", "up", "down"):
            self.assertEqual(self.rows_behind(one_deed((word, 0)), (A,), (1, A)), ((A,),))

    def test_pass_and_yield_over_several_things(self):
        # Marks: A 0, B 1, C 1, D 0, made by a deed of their own.
        def book(word, test):
            return ((0,), 2, 1, 1, (((), ()), ((0,), (("mark", (1, 1)),)), ((0, 1), ((word, 0, test),))))
        marked = [(1, B), (1, C)]
        over_ones = (((), (1,), (), (), 0),)
        for word, test, x, order in (
                ("pass", over_ones, D, (A, D, B, C)), ("pass", over_ones, C, (A, C, B, D)), ("pass", over_ones, B, (A, B, C, D)),
                ("pass", (ALWAYS,), D, (D, A, B, C)), ("pass", (), D, (A, B, C, D)), ("pass", (((1,), (), (), (), 0),), D, (A, B, C, D)),
                ("pass", (((1,), (), (), (), 0),), C, (C, A, B, D)), ("yield", over_ones, A, (B, C, A, D)), ("yield", over_ones, B, (A, C, B, D)),
                ("yield", over_ones, C, (A, B, C, D)), ("yield", (ALWAYS,), A, (B, C, D, A)), ("yield", (), A, (A, B, C, D)),
                ("yield", (((0,), (1,), (), (), 0),), A, (B, C, A, D)), ("yield", (((1,), (1,), (), (), 0),), A, (A, B, C, D))):
            self.assertEqual(self.rows_behind(book(word, test), (A, B, C, D), *marked, (2, x)), (order,), (word, test, x))

    def test_leap_and_fall(self):
        def book(word, test):
            return ((0,), 2, 1, 1, (((), ()), ((0,), (("mark", (1, 1)),)), ((0, 1), ((word, 0, test),))))
        e = (0, 4)
        marked = [(1, B), (1, D)]
        ones, zeros = (((), (1,), (), (), 0),), (((), (0,), (), (), 0),)
        for word, test, x, order in (
                ("leap", ones, e, (A, e, B, C, D)), ("leap", ones, C, (A, C, B, D, e)), ("leap", ones, B, (A, B, C, D, e)),
                ("leap", zeros, e, (e, A, B, C, D)), ("leap", (ALWAYS,), D, (D, A, B, C, e)), ("leap", (), e, (A, B, C, D, e)),
                ("leap", ones, A, (A, B, C, D, e)), ("leap", ones, D, (A, D, B, C, e)),
                ("fall", ones, A, (B, C, D, A, e)), ("fall", ones, C, (A, B, D, C, e)), ("fall", ones, D, (A, B, C, D, e)),
                ("fall", zeros, A, (B, C, D, e, A)), ("fall", (ALWAYS,), B, (A, C, D, e, B)), ("fall", (), A, (A, B, C, D, e)),
                ("fall", zeros, e, (A, B, C, D, e)), ("fall", ones, B, (A, C, D, B, e))):
            self.assertEqual(self.rows_behind(book(word, test), (A, B, C, D, e), *marked, (2, x)), (order,), (word, test, x))

    def test_the_side_row_is_the_other_row(self):
        def book(statement):
            return ((0,), 1, 2, 1, (((), ()), ((0,), (("up", 0),)), ((0,), (statement,))))
        # Row 0 is B A C, row 1 is A B C.
        for word, row, side, x, order in (
                ("pass", 0, 1, A, (B, A, C)), ("pass", 0, 2, A, (A, B, C)), ("pass", 0, 1, C, (C, B, A)), ("pass", 0, 2, C, (B, A, C)),
                ("pass", 1, 1, B, (A, B, C)), ("pass", 1, 2, B, (B, A, C)), ("yield", 0, 1, B, (A, B, C)), ("yield", 0, 2, B, (B, A, C)),
                ("yield", 1, 1, A, (B, A, C)), ("yield", 1, 2, A, (A, B, C)), ("leap", 0, 1, A, (B, A, C)), ("leap", 0, 2, A, (A, B, C)),
                ("leap", 1, 1, B, (A, B, C)), ("leap", 1, 2, B, (B, A, C)), ("leap", 0, 1, C, (C, B, A)), ("leap", 0, 2, C, (B, A, C)),
                ("fall", 0, 1, B, (A, B, C)), ("fall", 0, 2, B, (A, C, B)), ("fall", 1, 1, A, (B, A, C)), ("fall", 1, 2, A, (B, C, A))):
            rows = [(B, A, C), (A, B, C)]
            rows[row] = order
            found = self.rows_behind(book((word, row, (((), (), (), (), side),))), (A, B, C), (1, B), (2, x))
            self.assertEqual(found, tuple(rows), (word, row, side, x))

    def test_marks_and_notes_look_at_row_0(self):
        # Row 0 is C A B, row 1 is A B C.
        for rows in (1, 2):
            for side, hit in ((0, (A, B, C)), (1, (C,)), (2, (B,))):
                test = (((), (), (), (), side),)
                book = ((0,), 2, rows, 3, (((), ()), ((0,), (("first", 0),)), ((0, 1), (("marks", test, (1, 1)), ("notes", test, (1, 1, 1), (2, 2, 2))))))
                player = played(book, *all_come(A, B, C), (1, C), (2, A))
                for y in (B, C):
                    self.assertEqual(player.mark_of(y), int(y in hit))
                    self.assertEqual((player.note_of(A, y), player.note_of(y, A)), (1, 2) if y in hit else (0, 0))
                self.assertEqual(player.mark_of(A), 0)
                self.assertEqual((player.note_of(B, C), player.note_of(C, B)), (0, 0))

    def test_marks_by_mark_kind_and_note(self):
        k, m = (1, 0), (1, 5)
        # A has the note 1 of B and of m; the marks are A 0, B 2, k 1, m 1.
        def book(test):
            return ((0, 1), 3, 1, 2, (((), ()), ((0, 1, 2), (("mark", (2, 1, 2)),)), ((0, 1, 2), (("notes", (((), (2,), (), (), 0),), (1, 0), (0, 0)),)),
                                      ((0, 1, 2), (("marks", test, (2, 0, 1)),))))
        run = [*all_come(A, B, k, m), (1, B), (2, A), (3, A)]
        for case, hit in ((ALWAYS, (B, k, m)), (((), (2,), (), (), 0), (B,)), (((), (1,), (), (), 0), (k, m)), (((), (0,), (), (), 0), ()),
                          (((0,), (), (), (), 0), (B, k, m)), (((1, 2), (), (), (), 0), ()), (((), (), (1,), (), 0), (k, m)), (((), (), (0,), (), 0), (B,)),
                          (((), (), (), (1,), 0), (B,)), (((), (), (), (0,), 0), (k, m)), (((0,), (1, 2), (1,), (0,), 2), (k, m)),
                          (((0,), (1, 2), (1,), (0,), 1), ())):
            player = played(book((case,)), *run)
            before = {A: 0, B: 2, k: 1, m: 1}
            for x, mark in before.items():
                self.assertEqual(player.mark_of(x), (2, 0, 1)[mark] if x in hit else mark, (case, x))

    def test_notes_by_tables(self):
        book = ((0, 0), 1, 1, 4, (((), ()), ((0,), (("notes", (ALWAYS,), (1, 2, 3, 0), (2, 3, 0, 1)),)), ((0,), (("notes", (((), (), (1,), (2, 3), 0),), (0,) * 4, (1,) * 4),))))
        k = (1, 0)
        player = played(book, *all_come(A, k, B), (1, A))
        self.assertEqual([player.note_of(*pair) for pair in ((A, k), (k, A), (A, B), (B, A), (k, B), (B, k))], [1, 2, 1, 2, 0, 0])
        player.do(1, k)
        self.assertEqual([player.note_of(*pair) for pair in ((A, k), (k, A), (A, B), (B, A), (k, B), (B, k))], [3, 3, 1, 2, 1, 2])
        player.do(2, A)
        self.assertEqual([player.note_of(*pair) for pair in ((A, k), (k, A), (A, B), (B, A), (k, B), (B, k))], [0, 1, 1, 2, 1, 2])
        player.do(2, B)
        self.assertEqual([player.note_of(*pair) for pair in ((A, k), (k, A), (A, B), (B, A), (k, B), (B, k))], [0, 1, 1, 2, 1, 0])

    def test_mark_and_what_follows_it(self):
        book = one_deed(("mark", (1, 2, 0)), ("if", (1,), (("first", 0),), (("last", 0),)), ("pass", 0, (((2,), (), (), (), 0),)), marks=3)
        self.assertEqual(self.rows_behind(book, (A, B, C), (1, B)), ((B, A, C),))
        self.assertEqual(self.rows_behind(book, (A, B, C), (1, B), (1, B)), ((B, A, C),))
        self.assertEqual(self.rows_behind(book, (A, B, C), (1, B), (1, B), (1, B)), ((A, C, B),))
        self.assertEqual([place for place, _ in played(book, (0, A), (1, A)).last_steps()], [(0,), (1, 0, 0), (2,)])
        self.assertEqual([place for place, _ in played(book, (0, A), (1, A), (1, A)).last_steps()], [(0,), (1, 1, 0), (2,)])

    def test_if_looks_once_at_the_mark(self):
        book = one_deed(("if", (0,), (("mark", (1, 1)), ("up", 0), ("down", 0)), (("mark", (0, 0)), ("first", 0))), ("if", (0,), (), (("last", 0),)), marks=2)
        player = played(book, (0, A), (1, A))
        self.assertEqual([place for place, _ in player.last_steps()], [(0, 0, 0), (0, 0, 1), (0, 0, 2), (1, 1, 0)])
        player.do(1, A)
        self.assertEqual([place for place, _ in player.last_steps()], [(0, 1, 0), (0, 1, 1)])
        self.assertEqual(player.mark_of(A), 0)

    def test_coming(self):
        book = ((1, 2), 3, 2, 2, (((), (("first", 1), ("notes", (((), (), (), (0,), 1),), (1, 1), (0, 0)), ("if", (2,), (("mark", (0, 0, 0)),), ()))),))
        player = played(book, *all_come(A, (1, 0), B))
        self.assertEqual(player.stand_now(), (
            ((A, (1, 0), B), (B, (1, 0), A)), ((A, 1), (B, 1), ((1, 0), 0)),
            ((A, B, 0), (A, (1, 0), 0), (B, A, 1), (B, (1, 0), 1), ((1, 0), A, 1), ((1, 0), B, 0))))
        self.assertEqual([place for place, _ in player.last_steps()], [(0,), (1,)])

    def test_going_and_coming_again(self):
        book = ((0,), 2, 2, 3, (((), ()), ((0, 1), (("mark", (1, 1)), ("first", 0), ("notes", (ALWAYS,), (1, 1, 1), (2, 2, 2))))))
        player = played(book, *all_come(A, B, C), (1, B), (-1, B))
        self.assertEqual(player.last_steps(), [])
        self.assertEqual(player.stand_now(), (((A, C), (A, C)), ((A, 0), (C, 0)), ((A, C, 0), (C, A, 0))))
        player.do(0, B)
        self.assertEqual(player.last_steps(), [])
        self.assertEqual(player.stand_now()[0], ((A, C, B), (A, C, B)))
        self.assertEqual([mark for _, mark in player.stand_now()[1]], [0, 0, 0])
        self.assertEqual({note for _, _, note in player.stand_now()[2]}, {0})
        for x in (A, C, B):
            player.do(-1, x)
        self.assertEqual(player.stand_now(), (((), ()), (), ()))

    def test_steps_with_the_stand_behind_each(self):
        book = one_deed(("first", 0), ("mark", (1, 0)), ("if", (1,), (("last", 0), ("marks", (ALWAYS,), (1, 1))), ()), ("notes", (ALWAYS,), (1, 0), (0, 0)), marks=2, notes=2)
        player = played(book, *all_come(A, B), (1, B))
        self.assertEqual(player.last_steps(), [
            ((0,), (((B, A),), ((A, 0), (B, 0)), ((A, B, 0), (B, A, 0)))),
            ((1,), (((B, A),), ((A, 0), (B, 1)), ((A, B, 0), (B, A, 0)))),
            ((2, 0, 0), (((A, B),), ((A, 0), (B, 1)), ((A, B, 0), (B, A, 0)))),
            ((2, 0, 1), (((A, B),), ((A, 1), (B, 1)), ((A, B, 0), (B, A, 0)))),
            ((3,), (((A, B),), ((A, 1), (B, 1)), ((A, B, 0), (B, A, 1)))),
        ])
        self.assertEqual(player.last_steps()[-1][1], player.stand_now())

    def test_as_the_model_has_it(self):
        chance = random.Random(31)
        books = BOOKS + (full_book(),) + tuple(chance_books(32, 250)) + tuple(chance_books(33, 100, rows=2, marks=3, notes=3, kinds=2, most=6))
        for book in books:
            run = chance_run(chance, book, 20)
            player = Player(book)
            world = model.World(book)
            for deed, x in run:
                self.assertIsNone(player.do(deed, x))
                self.assertEqual(player.last_steps(), world.do(deed, x))
                self.assertEqual(player.stand_now(), world.stand())
            self.assertEqual(player.run_done(), run)
            for row in range(book[2]):
                self.assertEqual(player.row_now(row), tuple(world.rows[row]))
            for x in world.marks:
                self.assertEqual(player.mark_of(x), world.marks[x])
                for y in world.marks:
                    if y != x:
                        self.assertEqual(player.note_of(x, y), world.notes[x, y])


class PlayerTest(unittest.TestCase):

    def test_the_example_of_the_document(self):
        player = Player(PASS)
        self.assertEqual([player.do(0, (0, 5)), player.do(0, (0, 3)), player.do(0, (0, 9)), player.do(1, (0, 9))], [None] * 4)
        self.assertEqual([player.row_now(0), player.last_steps()[0][0], player.undo(), player.row_now(0)],
                         [((0, 9), (0, 5), (0, 3)), (0,), (1, (0, 9)), ((0, 5), (0, 3), (0, 9))])

    def test_at_first(self):
        for book in BOOKS:
            player = Player(book)
            self.assertEqual(held(player), ([], [], (((),) * book[2], (), ())))
            self.assertEqual([player.row_now(row) for row in range(book[2])], [()] * book[2])

    def test_what_is_no_rulebook(self):
        for value in any_values() + [ASK[:4], list(ASK), ((False,),) + ASK[1:], (ASK[0], 2, 1, True, ASK[4]), (ASK[0], 6) + ASK[2:]]:
            self.assertFalse(model.ok_book(value))
            with self.assertRaises(Wrong) as caught:
                Player(value)
            self.assertEqual((type(caught.exception.place), caught.exception.place), (int, 0))

    def refused(self, player, error, fields, deed, thing):
        before = held(player)
        with self.assertRaises(error) as caught:
            player.do(deed, thing)
        for name, value in fields.items():
            found = getattr(caught.exception, name)
            self.assertEqual((found, type(found)), (value, type(value)))
        self.assertEqual(held(player), before)

    def test_refusals(self):
        book = ((0,), 2, 1, 1, (((), ()), ((0,), (("mark", (1, 1)),)), ((1,), (("mark", (0, 0)),)), ((), ())))
        player = played(book, (0, A), (1, A), (0, B))
        self.refused(player, IsThere, {"thing": A}, 0, A)
        self.refused(player, IsThere, {"thing": B}, 0, B)
        for deed in (-1, 1, 2, 3):
            self.refused(player, NotThere, {"thing": C}, deed, C)
        self.refused(player, NotLet, {"deed": 1, "thing": A}, 1, A)
        self.refused(player, NotLet, {"deed": 2, "thing": B}, 2, B)
        for x in (A, B):
            self.refused(player, NotLet, {"deed": 3, "thing": x}, 3, x)
        player.do(-1, A)
        self.refused(player, NotThere, {"thing": A}, -1, A)
        player.do(0, A)
        self.refused(player, IsThere, {"thing": A}, 0, A)
        player.do(1, A)
        self.assertEqual(player.run_done()[-3:], [(-1, A), (0, A), (1, A)])

    def test_wrong_arguments_ahead_of_the_others(self):
        player = played(SWAP, (0, A), (0, B), (1, B))
        values = any_values()
        for value in values + [-2, 2, 10, (0, 0), "1"]:
            if not model.ok_int(value, -1, 1):
                for thing in [A, C, (1, 0), None] + values[:12]:
                    self.refused(player, Wrong, {"place": 0}, value, thing)
        for value in values + [(1, 0), (0, 10000), (0, -1), (False, 0), (0, True), [0, 0], (0, 0, 0), (0,)]:
            if not (model.ok_thing(value) and value[0] == 0):
                for deed in (-1, 0, 1):
                    self.refused(player, Wrong, {"place": 1}, deed, value)
        self.refused(player, Wrong, {"place": 1}, 1, (1, 0))
        self.refused(player, Wrong, {"place": 0}, 2, (1, 0))
        self.refused(played(LEAST), Wrong, {"place": 0}, 1, A)
        self.refused(played(WIDE), Wrong, {"place": 0}, 5, A)
        self.refused(played(WIDE), NotThere, {"thing": (1, 9999)}, 4, (1, 9999))

    def test_mark_of_and_note_of_what_is_not_there(self):
        player = played(SWAP, (0, A), (0, B), (0, C), (-1, C))
        for value in any_values() + [C, (1, 0), (False, 0), (0, False), (0, True), [0, 0]]:
            if model.ok_thing(value) and value in (A, B):
                continue
            other = [7]
            for ask, given, bad in ((player.mark_of, (value,), value), (player.note_of, (value, A), value), (player.note_of, (A, value), value),
                                    (player.note_of, (value, other), value), (player.note_of, (other, value), other)):
                before = held(player)
                with self.assertRaises(NotThere) as caught:
                    ask(*given)
                self.assertIs(caught.exception.thing, bad)
                self.assertEqual(held(player), before)
        self.assertEqual([player.mark_of(A), player.note_of(A, B)], [0, 0])

    def test_undo_brings_back_what_was(self):
        chance = random.Random(34)
        for book in BOOKS + tuple(chance_books(35, 40)):
            player = Player(book)
            before = []
            for deed, x in chance_run(chance, book, 15):
                before.append((held(player), (deed, x)))
                player.do(deed, x)
            for was, done in reversed(before):
                self.assertEqual(player.undo(), done)
                self.assertEqual(held(player), was)
            with self.assertRaises(Nothing):
                player.undo()
            self.assertEqual(held(player), ([], [], (((),) * book[2], (), ())))

    def test_on_behind_an_undo(self):
        player = played(SWAP, (0, A), (0, B), (1, B))
        player.undo()
        self.assertEqual(player.row_now(0), (A, B))
        player.do(-1, A)
        self.assertEqual(player.run_done(), [(0, A), (0, B), (-1, A)])
        self.assertEqual(player.undo(), (-1, A))
        player.do(1, B)
        self.assertEqual(player.row_now(0), (B, A))

    def test_copied_goes_its_own_way(self):
        player = played(WIDE, (0, A), (0, (1, 1)), (1, A))
        other = player.copied()
        self.assertIs(type(other), Player)
        self.assertEqual(held(other), held(player))
        was = held(player)
        other.do(0, B)
        other.do(1, B)
        self.assertEqual(held(player), was)
        player.undo()
        player.undo()
        self.assertEqual(other.run_done(), [(0, A), (0, (1, 1)), (1, A), (0, B), (1, B)])
        for _ in range(5):
            other.undo()
        self.assertEqual(held(other)[0], [])
        self.assertEqual(held(player)[0], [(0, A)])
        self.assertEqual(player.copied().copied(), player)

    def test_equal_by_rulebook_and_run_alone(self):
        one, other = played(SWAP, (0, A), (0, B), (1, B)), played(SWAP, (0, A), (0, B), (1, B))
        self.assertTrue(one == other)
        self.assertFalse(one != other)
        other.undo()
        self.assertFalse(one == other)
        self.assertTrue(one != other)
        other.do(1, B)
        self.assertTrue(one == other)
        # The same stand by another run, and the same run by another rulebook.
        self.assertFalse(played(FRONT, (0, A), (1, A)) == played(FRONT, (0, A)))
        self.assertFalse(played(FRONT, (0, A)) == played(SWAP, (0, A)))
        self.assertTrue(Player(SWAP) == Player(SWAP))
        self.assertFalse(Player(SWAP) == Player(FRONT))
        self.assertTrue(one == one.copied())

    def test_equal_to_nothing_else(self):
        for player in (Player(SWAP), played(SWAP, (0, A))):
            for value in any_values() + [SWAP, [], player.run_done(), (SWAP, []), held(player)]:
                if isinstance(value, Player):
                    continue
                self.assertIs(player == value, False)
                self.assertIs(value == player, False)
                self.assertIs(player != value, True)
            self.assertIs(type(player == player.copied()), bool)

    def test_what_is_returned_is_new(self):
        player = played(WIDE, (0, A), (0, B), (1, B))
        was = lasting(held(player))
        for ask in (player.last_steps, player.run_done):
            ask().append(5)
            ask().clear()
            ask()[0:1] = [0, 0]
            self.assertEqual(lasting(held(player)), was)
        run = player.run_done()
        player.do(0, C)
        self.assertEqual(len(run), 3)
        player.undo()
        self.assertEqual(lasting(held(player)), was)
        steps = player.copied().last_steps()
        steps.clear()
        self.assertEqual(lasting(held(player)), was)

    def test_methods_that_change_return_none(self):
        player = Player(SWAP)
        self.assertIsNone(player.do(0, A))
        self.assertIsNone(player.do(1, A))
        self.assertIsNone(player.do(-1, A))

    def test_equal_calls_give_equal_results(self):
        player = played(WIDE, (0, A), (0, B))
        first = held(player)
        for deed, x in itertools.product(range(-1, 5), (A, B)):
            other = player.copied()
            try:
                other.do(deed, x)
            except NotLet:
                pass
            except IsThere:
                pass
        self.assertEqual(held(player), first)
        self.assertEqual(played(NARROW, (0, A)), played(NARROW, (0, A)))


if __name__ == "__main__":
    unittest.main()
