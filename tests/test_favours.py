"""[33]: which things can be ahead of which."""

import random
import unittest

from ownmoment.errors import TooMany, Unlike
from ownmoment.favours import never_worse, run_ahead
from tests import machine_model, model
from tests.machine_books import APART_FULL, ELDER, KINDS, MORE, SORT, one_row
from tests.samples import FRONT_MACHINE, LEAST_MACHINE, WIDE_MACHINE, lasting
from tests.test_alike import ALL, EARLIER, LATER, like, small, wheels
from tests.test_machines import changed

A, B, K, M = (0, 0), (0, 1), (1, 0), (1, 1)


def is_ahead(machine, row, run, x, y):
    """Whether both are there behind the run, x ahead of y."""
    figures = model.figures_behind(machine, run)
    if type(figures) is int:
        return False
    order = machine_model.row_of(machine, row, figures)
    return x in order and y in order and order.index(x) < order.index(y)


class RunAheadTest(unittest.TestCase):

    def check(self, machine):
        before = lasting(machine)
        nothing = 0
        for row in range(len(machine[1][0][0])):
            for kind in range(len(machine[0])):
                for rival in range(len(machine[0])):
                    x, y = (kind, 0), (rival, 1)
                    best = machine_model.shortest_run((machine,), [x, y], lambda run: is_ahead(machine, row, run, x, y))
                    found = run_ahead(machine, row, kind, rival)
                    if best is None:
                        self.assertIsNone(found)
                        nothing += 1
                        continue
                    self.assertIs(type(found), list)
                    self.assertEqual(len(found), len(best))
                    self.assertTrue(is_ahead(machine, row, found, x, y), (machine, row, kind, rival, found))
                    self.assertEqual({one for _, one in found}, {x, y})
        self.assertEqual(lasting(machine), before)
        return nothing

    def test_by_hand(self):
        self.assertEqual(run_ahead(FRONT_MACHINE, 0, 0, 0), [(0, A), (0, B)])
        self.assertEqual(run_ahead(one_row((0,), [(0, LATER, 0, 1)], ((),)), 0, 0, 0), [(0, B), (0, A)])
        # The first kind stands by its last deed, ahead of all of the second one.
        self.assertIsNone(run_ahead(KINDS, 0, 1, 0))
        self.assertEqual(sorted(run_ahead(KINDS, 0, 0, 1)), [(0, A), (0, M)])
        self.assertEqual(run_ahead(KINDS, 0, 0, 0), [(0, B), (0, A)])
        self.assertEqual(run_ahead(KINDS, 0, 1, 1), [(0, K), (0, M)])
        # Of the sorted ones, one of the second kind has to do deed 2 to be ahead, the later one to be behind.
        self.assertEqual(len(run_ahead(SORT, 0, 1, 0)), 3)
        self.assertEqual(len(run_ahead(SORT, 0, 0, 1)), 2)

    def test_as_the_model_has_it(self):
        chance = random.Random(251)
        nothing = sum(self.check(machine) for machine in ALL if machine is not WIDE_MACHINE)
        nothing += sum(self.check(small(chance)) for _ in range(100))
        self.assertGreater(nothing, 15)

    def test_many_points(self):
        # More points than two machines may have joint points.
        many = 6100
        points = [(1, EARLIER, 0, 1)] * (many - 1) + [(0, EARLIER, 0, 1)]
        machine = one_row((0, many - 1), points, tuple((((at + 1) % many, (0,)),) for at in range(many)))
        self.assertEqual(len(run_ahead(machine, 0, 0, 1)), 3)
        self.assertEqual(run_ahead(machine, 0, 1, 0), [(0, K), (0, B)])


class NeverWorseTest(unittest.TestCase):

    def check(self, one, other):
        before = lasting((one, other))
        found_any = 0
        for row in range(len(one[1][0][0])):
            for kind in range(len(one[0])):
                for rival in range(len(one[0])):
                    x, y = (kind, 0), (rival, 1)

                    def is_worse(run):
                        return is_ahead(other, row, run, x, y) and is_ahead(one, row, run, y, x)
                    best = machine_model.shortest_run((one, other), [x, y], is_worse)
                    found = never_worse(one, other, row, kind, rival)
                    if best is None:
                        self.assertIsNone(found, (one, other, row, kind, rival))
                        continue
                    found_any += 1
                    self.assertIs(type(found), list)
                    self.assertEqual(len(found), len(best), (one, other, row, kind, rival))
                    self.assertTrue(is_worse(found))
                    self.assertEqual({z for _, z in found}, {x, y})
        self.assertEqual(lasting((one, other)), before)
        return found_any

    def test_by_hand(self):
        other = changed(FRONT_MACHINE, (1, 1, 0, 0, 1), EARLIER)
        self.assertEqual(len(never_worse(FRONT_MACHINE, other, 0, 0, 0)), 4)
        # The first kind ahead of the second one by the first machine, behind it by the other one.
        self.assertIsNone(never_worse(KINDS, changed(changed(KINDS, (1, 0, 0, 0, 0), 1), (1, 1, 0, 0, 0), 0), 0, 0, 1))
        run = never_worse(KINDS, changed(changed(KINDS, (1, 0, 0, 0, 0), 1), (1, 1, 0, 0, 0), 0), 0, 1, 0)
        self.assertEqual(sorted(run), [(0, B), (0, K)])
        # By the moment of asking instead of that of coming, and the other way about.
        other = changed(ELDER, (2, 1, 1, 1), (0,))
        for one, rival in ((ELDER, other), (other, ELDER)):
            self.assertEqual(len(never_worse(one, rival, 0, 0, 0)), 6)

    def test_with_itself(self):
        chance = random.Random(252)
        for machine in ALL + tuple(small(chance) for _ in range(40)):
            for other in (machine, machine_model.otherwise(chance, machine)):
                for row in range(len(machine[1][0][0])):
                    for kind in range(len(machine[0])):
                        for rival in range(len(machine[0])):
                            self.assertIsNone(never_worse(machine, other, row, kind, rival))

    def test_as_the_model_has_it(self):
        chance = random.Random(253)
        found = 0
        for _ in range(120):
            machine = small(chance)
            other = machine_model.altered(chance, machine)
            found += self.check(machine, other) + self.check(other, machine)
        self.assertGreater(found, 80)
        for _ in range(50):
            machine = small(chance)
            self.check(machine, like(chance, machine))
        for machine in (ELDER, APART_FULL, SORT, MORE):
            self.check(machine, machine_model.altered(chance, machine))


class ErrorsTest(unittest.TestCase):

    def test_unlike(self):
        big, bigger = wheels(80, 80)
        for one, other in ((FRONT_MACHINE, MORE), (FRONT_MACHINE, LEAST_MACHINE), (SORT, ELDER), (big, ((0, 0),) + bigger[1:])):
            for mine, theirs in ((one, other), (other, one)):
                with self.assertRaises(Unlike):
                    never_worse(mine, theirs, 0, 0, 0)

    def test_too_many(self):
        one, other = wheels(17, 353)
        with self.assertRaises(TooMany) as caught:
            never_worse(one, other, 0, 0, 0)
        self.assertEqual(caught.exception.most, 6000)
        # Those of the other kind count as well.
        second = [((len(machine[1]), 0), machine[1] + ((((999, EARLIER, 0),), 1, ()),), machine[2] + ((None, None),)) for machine in (one, other)]
        with self.assertRaises(TooMany):
            never_worse(*second, 0, 0, 0)
        one, other = wheels(75, 80)
        run = never_worse(one, other, 0, 0, 0)
        self.assertEqual(len(run), 3)
        self.assertTrue(is_ahead(other, 0, run, A, B) and is_ahead(one, 0, run, B, A))

    def test_new_each_time(self):
        first = run_ahead(SORT, 0, 1, 0)
        run_ahead(SORT, 0, 1, 0).clear()
        run_ahead(KINDS, 0, 1, 0)
        self.assertEqual(run_ahead(SORT, 0, 1, 0), first)
        self.assertEqual(run_ahead(changed(SORT, (1, 2, 0, 0, 0), 1), 0, 0, 1), run_ahead(SORT, 0, 0, 1))


if __name__ == "__main__":
    unittest.main()
