"""[28]: from rulebooks to machines."""

import random
import unittest
from unittest import mock

from ownmoment import compiler
from ownmoment.compiler import full_machine, is_machine_of, machine_of
from ownmoment.errors import Bothered, MomentError, TooMany
from ownmoment.least import is_least, least_machine
from ownmoment.machines import is_machine, row_machine
from ownmoment.player import Player
from tests import machine_model, model
from tests.machine_books import APART_BOOK, APART_FULL, ELDER, ELDER_BOOK, KNOWN, MORE, MORE_BOOK, SORT, SORT_BOOK, labelled, wide_book
from tests.samples import ASK, FRONT, FRONT_MACHINE, LEAST, LEAST_MACHINE, PASS, SWAP, chance_books, lasting
from tests.test_bothers import MANY, QUIET_MANY
from tests.test_machines import changed

CALLS = (machine_of, full_machine, lambda book: is_machine_of(book, FRONT_MACHINE))


class Watched:
    """Plays a rulebook by the model and its machines by figures, side by side."""

    def __init__(self, test, book, machine, full):
        self.test, self.book, self.machine, self.full = test, book, machine, full
        self.world, self.run = model.World(book), []

    def do(self, deed, x):
        """Whether it was let."""
        let = self.world.bar(deed, x) is None
        for machine in (self.machine, self.full):
            self.test.assertIs(type(model.figures_behind(machine, self.run + [(deed, x)])) is list, let)
        if let:
            self.world.do(deed, x)
            self.run.append((deed, x))
        return let

    def check(self):
        figures = model.figures_behind(self.machine, self.run)
        self.test.assertEqual(machine_model.row_of(self.machine, 0, figures), self.world.rows[0])
        figures = model.figures_behind(self.full, self.run)
        for row in range(self.book[2]):
            self.test.assertEqual(machine_model.row_of(self.full, row, figures), self.world.rows[row])
        for x, (point, _) in figures:
            self.test.assertEqual(self.full[1][point][2], (x[0], self.world.marks[x]))


class KnownTest(unittest.TestCase):

    def test_the_document(self):
        self.assertEqual(machine_of(FRONT), FRONT_MACHINE)

    def test_by_hand(self):
        for book, machine, full in KNOWN:
            before = lasting(book)
            self.assertEqual(machine_of(book), machine)
            if full is not None:
                self.assertEqual(full_machine(book), full)
            self.assertIs(is_machine_of(book, machine), True)
            self.assertEqual(lasting(book), before)
        for book in (PASS, ASK, FRONT):
            self.assertEqual(machine_of(book), FRONT_MACHINE)
        self.assertEqual(machine_of(LEAST), LEAST_MACHINE)
        self.assertEqual(full_machine(LEAST), labelled(LEAST_MACHINE, [(0, 0)]))

    def test_a_rank_that_hangs_on_more_than_the_mark(self):
        self.assertEqual(full_machine(FRONT), labelled(FRONT_MACHINE, [(0, 0), (0, 0)]))
        # Two kinds with one class by their deeds alone have one point in common, and two with labels.
        self.assertEqual(full_machine(MORE_BOOK), (
            (0, 1), tuple((((rank, way, 0),), 1, (kind, 0)) for rank, way, kind in ((1, "earlier", 0), (1, "earlier", 1), (0, "later", 0), (0, "later", 1))),
            (((2, (-1,)),), ((3, (-1,)),), ((2, (-1,)),), ((3, (-1,)),))))

    def test_labels(self):
        full = full_machine(SORT_BOOK)
        self.assertEqual([label for _, _, label in full[1]], [(0, 0), (1, 2), (0, 1), (1, 0), (0, 2), (1, 1)])
        self.assertEqual(least_machine(row_machine(full, 0)), SORT)


class PlayedTest(unittest.TestCase):

    def play(self, book, chance, length):
        try:
            machine, full = machine_of(book), full_machine(book)
        except (Bothered, TooMany):
            return False
        self.assertTrue(is_machine(machine) and is_machine(full))
        self.assertTrue(is_least(machine) and is_least(full))
        self.assertEqual([len(machine[1][0][0]), len(full[1][0][0])], [1, book[2]])
        self.assertTrue(all(label == () for _, _, label in machine[1]))
        self.assertEqual(least_machine(row_machine(full, 0)), machine)
        self.assertIs(is_machine_of(book, machine), True)
        things = [(kind, number) for kind in range(len(book[0])) for number in (0, 3, 11)]
        for _ in range(3):
            watched = Watched(self, book, machine, full)
            while len(watched.run) < length:
                deed = chance.choice([0, 0, -1, *range(1, len(book[4])), *range(1, len(book[4]))])
                if watched.do(deed, chance.choice(things)) and len(watched.run) % 3 == 0:
                    watched.check()
        return True

    def test_known_ones(self):
        chance = random.Random(221)
        for book, _, _ in KNOWN:
            self.assertTrue(self.play(book, chance, 40))
        for book in (ASK, PASS, FRONT, LEAST):
            self.assertTrue(self.play(book, chance, 40))

    def test_drawn_ones(self):
        chance = random.Random(222)
        many = sum(self.play(book, chance, 24) for book in chance_books(223, 250))
        self.assertGreater(many, 50)
        many = sum(self.play(book, chance, 24) for book in chance_books(224, 60, kinds=2, rows=2))
        self.assertGreater(many, 5)

    def test_by_the_player(self):
        # The same with the Player of the program, more things, and figures of the whole run.
        player = Player(ELDER_BOOK)
        chance = random.Random(225)
        run = []
        for _ in range(200):
            deed, x = chance.choice((0, 1, 2, 2, -1)), (0, chance.randrange(12))
            try:
                player.do(deed, x)
                run.append((deed, x))
            except MomentError:
                continue
            self.assertEqual(machine_model.row_of(ELDER, 0, model.figures_behind(ELDER, run)), list(player.row_now(0)))
        self.assertGreater(len(run), 25)


class IsMachineOfTest(unittest.TestCase):

    def test_written_otherwise(self):
        chance = random.Random(226)
        for book, machine, full in KNOWN:
            for _ in range(4):
                self.assertIs(is_machine_of(book, machine_model.otherwise(chance, machine)), True)
            # Labels say nothing here.
            if full is not None and book[2] == 1:
                self.assertIs(is_machine_of(book, full), True)

    def test_one_place_otherwise(self):
        chance = random.Random(227)
        many = [0, 0]
        for book, machine, _ in KNOWN[:7]:
            things = [(kind, number) for kind in range(len(book[0])) for number in (0, 1)]
            for _ in range(6):
                other = machine_model.altered(chance, machine)
                same = machine_model.shortest_run((machine, other), things, lambda run: machine_model.is_parting(machine, other, run)) is None
                many[same] += 1
                self.assertIs(is_machine_of(book, other), same, other)
        self.assertGreater(many[False], 20)
        self.assertIs(is_machine_of(ELDER_BOOK, changed(ELDER, (1, 2, 0, 0, 1), "later")), False)
        self.assertIs(is_machine_of(ELDER_BOOK, changed(ELDER, (2, 1, 1, 1), (0,))), False)
        self.assertIs(is_machine_of(ELDER_BOOK, changed(ELDER, (2, 2, 1), (2, (0,)))), False)
        self.assertIs(is_machine_of(APART_BOOK, row_machine(APART_FULL, 0)), True)
        self.assertIs(is_machine_of(APART_BOOK, row_machine(APART_FULL, 1)), False)

    def test_other_numbers(self):
        begins, points, moves = MORE
        self.assertIs(is_machine_of(MORE_BOOK, MORE), True)
        self.assertIs(is_machine_of(MORE_BOOK, (begins[:1], points, moves)), False)
        self.assertIs(is_machine_of(FRONT, MORE), False)
        self.assertIs(is_machine_of(MORE_BOOK, (begins, points, ((), ()))), False)
        self.assertIs(is_machine_of(MORE_BOOK, (begins, points, tuple(move + (None,) for move in moves))), False)
        self.assertIs(is_machine_of(LEAST, ((0,), LEAST_MACHINE[1], ((None,),))), False)


class ErrorsTest(unittest.TestCase):

    def test_bothered(self):
        run = [(0, (0, 0)), (0, (0, 1)), (0, (0, 2)), (1, (0, 2))]
        for call in CALLS:
            with self.assertRaises(Bothered) as caught:
                call(SWAP)
            error = caught.exception
            self.assertEqual((error.run, error.some, error.at), (run, ((0, 0), (0, 2)), 0))
            error.run.append(0)
        with self.assertRaises(Bothered):
            is_machine_of(SWAP, MORE)

    def test_too_many_stands(self):
        for book in (MANY, QUIET_MANY):
            for call in CALLS:
                with self.assertRaises(TooMany) as caught:
                    call(book)
                self.assertEqual(caught.exception.most, 1500)

    def test_too_many_points(self):
        full = full_machine(wide_book(1))
        self.assertEqual((len(full[1]), max(live for _, live, _ in full[1])), (34, 3))
        # The same for two kinds, and each with its own labels.
        book = wide_book(2)
        with self.assertRaises(TooMany) as caught:
            full_machine(book)
        self.assertEqual(caught.exception.most, 40)
        machine = machine_of(book)
        self.assertEqual((machine[0], len(machine[1])), ((0, 0), 7))
        self.assertIs(is_machine_of(book, machine), True)
        self.assertIs(is_machine_of(book, FRONT_MACHINE), False)

    def test_bounds(self):
        # With other bounds, as no rulebook with more than three live moments and few enough stands is known.
        def most(book, live, points):
            with mock.patch.object(compiler, "MOST_LIVE", live), mock.patch.object(compiler, "MOST_POINTS", points):
                for call in (machine_of, full_machine):
                    with self.assertRaises(TooMany) as caught:
                        call(book)
                    self.assertEqual(caught.exception.most, live if live < 2 else points)
                self.assertIs(is_machine_of(ELDER_BOOK, ELDER), True)
        most(ELDER_BOOK, 1, 40)
        # Live moments ahead of points.
        most(ELDER_BOOK, 1, 0)
        most(ELDER_BOOK, 2, 2)
        with mock.patch.object(compiler, "MOST_LIVE", 2), mock.patch.object(compiler, "MOST_POINTS", 3):
            self.assertEqual(machine_of(ELDER_BOOK), ELDER)
        with mock.patch.object(compiler, "MOST_LIVE", 1), mock.patch.object(compiler, "MOST_POINTS", 2):
            # Two live moments of two rows, but one of each.
            self.assertEqual(machine_of(APART_BOOK), row_machine(machine_of(APART_BOOK), 0))
            with self.assertRaises(TooMany) as caught:
                full_machine(APART_BOOK)
            self.assertEqual(caught.exception.most, 1)

    def test_whatever_was_asked_between(self):
        first = full_machine(APART_BOOK)
        machine_of(SORT_BOOK)
        with self.assertRaises(Bothered):
            machine_of(SWAP)
        self.assertEqual(full_machine(APART_BOOK), first)


if __name__ == "__main__":
    unittest.main()
