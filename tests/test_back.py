"""[29]: from machines back to rulebooks."""

import random
import unittest

from ownmoment.back import book_of
from ownmoment.bothers import first_bother
from ownmoment.compiler import machine_of
from ownmoment.errors import TooMany
from ownmoment.least import least_machine
from ownmoment.machines import row_machine
from tests import machine_model, model
from tests.machine_books import ELDER, KINDS, KNOWN, SORT, one_row
from tests.samples import FRONT_MACHINE, LEAST_MACHINE, lasting
from tests.test_least import BEHIND, ring
from tests.test_machines import chance_machine, chance_run, chance_tuples, changed

LATER, EARLIER = "later", "earlier"


def keeping(many):
    """A machine with so many points, the last one of which has two live moments that both count later."""
    points = [(at, EARLIER, 0, 1) for at in range(many - 1)] + [(many, LATER, 1, 2)]
    moves = [((at + 1, (0,) if at < many - 2 else (0, -1)), None) for at in range(many - 1)] + [((0, (0,)), (many - 1, (0, -1)))]
    return one_row((0,), points, tuple(moves))


class BookTest(unittest.TestCase):

    def check(self, machine, chance, lengths):
        before = lasting(machine)
        book = book_of(machine)
        self.assertEqual(lasting(machine), before)
        self.assertTrue(model.ok_book(book), book)
        self.assertEqual((len(book[0]), book[2], len(book[4])), (len(machine[0]), 1, len(machine[2][0]) + 1))
        for length in lengths:
            run = chance_run(chance, machine, length)
            world = model.World(book)
            for at, (deed, x) in enumerate(run):
                for other, y in chance_tuples(chance, machine, 4):
                    let = type(model.figures_behind(machine, run[:at] + [(other, y)])) is list
                    self.assertIs(world.bar(other, y) is None, let)
                self.assertIsNone(world.bar(deed, x))
                world.do(deed, x)
                self.assertEqual(world.rows[0], machine_model.row_of(machine, 0, model.figures_behind(machine, run[:at + 1])))
            self.assertIsNone(first_bother(book, run))
        self.assertIsNone(model.first_bother(book, run[:12]))
        return book

    def compile(self, machine):
        """Whether the rulebook has few enough stands."""
        try:
            found = machine_of(book_of(machine))
        except TooMany as error:
            self.assertEqual(error.most, 1500)
            return False
        self.assertEqual(found, least_machine(machine))
        return True

    def test_by_hand(self):
        chance = random.Random(231)
        for machine in (FRONT_MACHINE, LEAST_MACHINE, BEHIND, ELDER, SORT, KINDS, ring(5), keeping(2), keeping(3), *(machine for _, machine, _ in KNOWN)):
            self.check(machine, chance, (20, 30))
            self.assertTrue(self.compile(machine))
        # Five points with two live moments: such a rulebook may have too many stands.
        self.check(keeping(5), chance, (30, 30))
        self.compile(keeping(5))

    def test_the_rulebook_of_the_document_again(self):
        self.assertEqual(machine_of(book_of(machine_of(book_of(FRONT_MACHINE)))), FRONT_MACHINE)

    def test_five_deeds(self):
        # Each deed leads somewhere else; one is not let at all.
        moves = tuple(tuple(None if deed == 3 else ((at + deed) % 4, (-1,)) for deed in range(5)) for at in range(4))
        machine = one_row((0, 2), [(2, LATER, 0, 1), (0, EARLIER, 0, 1), (2, LATER, 0, 1), (1, LATER, 0, 1)], moves)
        book = self.check(machine, random.Random(232), (30, 30))
        self.assertEqual(len(book[4]), 6)
        self.assertTrue(self.compile(machine))

    def test_drawn_ones(self):
        chance = random.Random(233)
        seen = {}
        for _ in range(260):
            machine = row_machine(chance_machine(chance), 0)
            least = least_machine(machine)
            if max(live for _, live, _ in least[1]) > 2:
                continue
            size = (len(machine[0]), len(least[1]), max(live for _, live, _ in least[1]))
            seen[size] = seen.get(size, 0) + 1
            if seen[size] <= 5:
                self.check(machine, chance, (14, 22))
            if seen[size] <= 2 and size[1] < 5:
                self.compile(machine)
        self.assertTrue({(kinds, points, live) for kinds in (1, 2) for points in (3, 4, 5) for live in (1, 2)} - {(1, 5, 1), (2, 5, 1)} <= set(seen), seen)


class ErrorsTest(unittest.TestCase):

    def refused(self, machine):
        with self.assertRaises(TooMany) as caught:
            book_of(machine)
        return caught.exception.most

    def test_points(self):
        self.assertEqual(self.refused(ring(6)), 5)
        self.assertEqual(self.refused(ring(60)), 5)
        book_of(ring(5))

    def test_live_moments(self):
        # Each of three moments counts behind another deed.
        points = [(0, EARLIER, 0, 1), (0, EARLIER, 0, 2), (1, LATER, 0, 3), (2, LATER, 0, 1)]
        moves = (((1, (0, -1)), None, None), ((2, (0, 1, -1)), None, None), ((3, (0,)), (3, (1,)), (3, (2,))), (None, None, None))
        machine = one_row((0,), points, moves)
        self.assertEqual(self.refused(machine), 2)
        # The points come first.
        wide = one_row((0,), points + [(3, LATER, 0, 1), (4, LATER, 0, 1)], moves[:3] + (((4, (0,)), (5, (0,)), None), (None,) * 3, ((0, (0,)), None, None)))
        self.assertEqual(self.refused(wide), 5)

    def test_by_the_least_machine(self):
        chance = random.Random(234)
        for machine in (FRONT_MACHINE, ELDER, keeping(4)):
            least = least_machine(machine)
            for _ in range(5):
                other = machine_model.otherwise(chance, machine)
                for _ in range(4):
                    other = machine_model.with_point(chance, machine_model.with_moment(chance, other))
                self.assertGreater(len(other[1]), 5)
                book = book_of(other)
                self.assertEqual(book[1], len(least[1]))
        # Three live moments of which nobody needs one.
        machine = ((0,), ((((0, EARLIER, 0),), 1, ()), (((0, EARLIER, 0),), 2, ()), (((1, LATER, 1),), 3, ())),
                   (((1, (0, -1)),), ((2, (0, 1, -1)),), ((0, (0,)),)))
        self.assertEqual(machine_of(book_of(machine)), least_machine(machine))

    def test_whatever_was_asked_between(self):
        first = book_of(ELDER)
        book_of(SORT)
        self.refused(ring(6))
        self.assertEqual(book_of(ELDER), first)
        self.assertNotEqual(book_of(changed(ELDER, (1, 2, 0, 0, 1), LATER)), first)


if __name__ == "__main__":
    unittest.main()
