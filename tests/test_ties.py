"""[65]: ties."""

import itertools
import random
import unittest

from ownmoment.ties import is_tie, is_tied, ties_among, tying_weavings, weaving_by, weavings_between
from tests import model, tie_model
from tests.machine_books import APART_FULL, ELDER, labelled
from tests.samples import WIDE_MACHINE, any_values, asked, lasting, variants
from tests.test_machines import LABELLED, chance_run
from tests.tie_model import chance_tie

A, B, C, K = (0, 0), (0, 1), (0, 2), (1, 0)
APART_LABELLED = labelled(APART_FULL, [(0, mark) for mark in range(5)])
ELDER_LABELLED = labelled(ELDER, [(0, 0), (0, 1), (0, 2)])
ALL = (WIDE_MACHINE, LABELLED, APART_LABELLED, ELDER_LABELLED)


class IsTieTest(unittest.TestCase):

    def check(self, rows, value, good):
        self.assertIs(tie_model.ok_tie(rows, value), good, value)
        self.assertIs(is_tie(rows, value), good, value)

    def test_by_hand(self):
        one = ((0, 1), (1, 0), (2,))
        for tie in ((), (one,), (one, one), (one,) * 12, (((0, 10 ** 39), (77, 5), (0,)),)):
            self.check(1, tie, True)
            self.check(2, tie, tie == ())
            self.check(2, tuple((mine, theirs, (*sides, 1)) for mine, theirs, sides in tie), True)
        for tie in ((one,) * 13, [one], one, (list(one),), (one[:2],), (one + (0,),), (((0, 1), (1, 0), [2]),), (((0, 1), (1, 0), 2),),
                    (((0, 1), (1, 0), (3,)),), (((0, 1), (1, 0), (-1,)),), (((0, -1), (1, 0), (1,)),), (((0,), (1, 0), (1,)),),
                    (((0, 1), (1, 0, 0), (1,)),), (((0, 1), [1, 0], (1,)),), (((0, 1), (), (1,)),), (((0, 1), (1, 0), ()),), None, (None,)):
            self.check(1, tie, False)
        for tie in ((((0, True), (1, 0), (1,)),), (((0, 1), (False, 0), (1,)),), (((0, 1), (1, 0), (True,)),), (((0, 1), (1, 0), (False,)),)):
            self.check(1, tie, False)

    def test_any_values(self):
        one = ((0, 1), (1, 0), (2,))
        for value in any_values():
            for tie in (value, (value,), (one, value), ((value, one[1], one[2]),), ((one[0], value, one[2]),), ((one[0], one[1], value),),
                        (((value, 0), one[1], one[2]),), ((one[0], one[1], (value,)),)):
                for rows in (1, 2):
                    self.assertIs(is_tie(rows, tie), tie_model.ok_tie(rows, tie), tie)

    def test_one_place_otherwise(self):
        many = [0, 0]
        for rows in (1, 2):
            for tie in ((((0, 1), (1, 0), (2, 1)[:rows]), ((0, 0), (0, 0), (0, 0)[:rows])), (((1, 2), (1, 2), (1, 1)[:rows]),) * 12):
                before = lasting(tie)
                for value in variants(tie):
                    good = tie_model.ok_tie(rows, value)
                    many[good] += 1
                    self.assertIs(is_tie(rows, value), good, value)
                self.assertEqual(lasting(tie), before)
        self.assertGreater(min(many), 50)


class TiedTest(unittest.TestCase):

    def test_by_hand(self):
        # Those that have asked are tied to the ones ahead of them that have not.
        tie = (((0, 1), (0, 0), (2,)),)
        self.assertIs(is_tied(ELDER_LABELLED, tie, (1, (3, 5)), (0, (2,))), True)
        self.assertIs(is_tied(ELDER_LABELLED, tie, (1, (3, 5)), (0, (4,))), False)
        self.assertIs(is_tied(ELDER_LABELLED, tie, (0, (2,)), (1, (3, 5))), False)
        self.assertIs(is_tied(ELDER_LABELLED, (((0, 1), (0, 0), (1,)),), (1, (3, 5)), (0, (4,))), True)
        self.assertIs(is_tied(ELDER_LABELLED, (((0, 1), (0, 0), (0,)),), (1, (3, 5)), (0, (2,))), True)
        self.assertIs(is_tied(ELDER_LABELLED, (), (1, (3, 5)), (0, (2,))), False)
        self.assertIs(is_tied(ELDER_LABELLED, (((0, 7), (0, 0), (0,)), ((0, 1), (0, 0), (2,))), (1, (3, 5)), (0, (2,))), True)
        figures = [(A, (1, (3, 5))), (B, (0, (2,))), (C, (0, (9,)))]
        self.assertEqual(ties_among(ELDER_LABELLED, tie, figures), [(A, B)])
        self.assertEqual(ties_among(ELDER_LABELLED, (((0, 0), (0, 0), (0,)),), figures), [(B, C), (C, B)])
        self.assertEqual(ties_among(ELDER_LABELLED, tie, []), [])

    def test_both_rows(self):
        # Behind deed 1 of A and deed 2 of B, A is ahead in the first row and B in the second one.
        figures = dict(model.figures_behind(APART_LABELLED, [(0, A), (0, B), (1, A), (2, B)]))
        one, other = figures[A], figures[B]
        labels = ((0, 1), (0, 2))
        for sides in itertools.product((0, 1, 2), repeat=2):
            self.assertIs(is_tied(APART_LABELLED, ((*labels, sides),), one, other), sides[0] != 2 and sides[1] != 1)
            self.assertIs(is_tied(APART_LABELLED, ((*labels[::-1], sides),), other, one), sides[0] != 1 and sides[1] != 2)

    def test_as_the_definition_says(self):
        chance = random.Random(471)
        seen = set()
        for at in range(200):
            machine = ALL[at] if at < len(ALL) else tie_model.labelled(chance)
            figures = model.figures_behind(machine, chance_run(chance, machine, 14))
            for _ in range(4):
                tie = chance_tie(chance, machine)
                tied = []
                for (x, one), (y, other) in itertools.permutations(figures, 2):
                    found = asked(is_tied, machine, tie, one, other)
                    self.assertIs(found, tie_model.is_tied(machine, tie, one, other))
                    tied += [(x, y)] if found else []
                    # How their moments are woven tells the same.
                    weaving = asked(weaving_by, one, other)
                    moments = sorted([(now, 0) for now in one[1]] + [(now, 1) for now in other[1]])
                    self.assertEqual(weaving, tuple(whose for _, whose in moments))
                    self.assertIn(weaving, weavings_between(machine, one[0], other[0]))
                    self.assertEqual(weaving in tying_weavings(machine, tie, one[0], other[0]), found)
                self.assertEqual(asked(ties_among, machine, tie, figures), sorted(tied))
                seen.add((len(machine[1][0][0]), bool(tied), any((y, x) in tied for x, y in tied)))
        self.assertEqual(seen, {(rows, *truths) for rows in (1, 2) for truths in ((False, False), (True, False), (True, True))})


class WeavingsTest(unittest.TestCase):

    def test_by_hand(self):
        self.assertEqual(weavings_between(ELDER_LABELLED, 0, 0), [(0, 1), (1, 0)])
        self.assertEqual(weavings_between(ELDER_LABELLED, 0, 1), [(0, 1, 1), (1, 0, 1), (1, 1, 0)])
        self.assertEqual(weavings_between(ELDER_LABELLED, 1, 0), [(0, 0, 1), (0, 1, 0), (1, 0, 0)])
        self.assertEqual(len(weavings_between(WIDE_MACHINE, 2, 2)), 20)
        self.assertEqual(weaving_by((1, (3, 9)), (1, (5, 7))), (0, 1, 1, 0))
        # By the moment of coming, whenever the one asked.
        self.assertEqual(tying_weavings(ELDER_LABELLED, (((0, 1), (0, 0), (2,)),), 1, 0), [(1, 0, 0)])
        self.assertEqual(tying_weavings(ELDER_LABELLED, (((0, 1), (0, 0), (1,)),), 1, 0), [(0, 0, 1), (0, 1, 0)])
        self.assertEqual(tying_weavings(ELDER_LABELLED, (((0, 1), (0, 0), (0,)),), 0, 1), [])

    def test_as_the_definition_says(self):
        chance = random.Random(472)
        seen = set()
        for at in range(120):
            machine = ALL[at] if at < len(ALL) else tie_model.labelled(chance)
            for one, other in itertools.product(range(len(machine[1])), repeat=2):
                self.assertEqual(asked(weavings_between, machine, one, other), tie_model.weavings(machine, one, other))
                for tie in (chance_tie(chance, machine), ((machine[1][one][2], machine[1][other][2], (1,) * len(machine[1][0][0])),)):
                    found = asked(tying_weavings, machine, tie, one, other)
                    self.assertEqual(found, tie_model.tying(machine, tie, one, other))
                    seen.add((one == other, min(len(found), 3)))
        self.assertEqual(seen, {(same, many) for same in (True, False) for many in range(4)})


if __name__ == "__main__":
    unittest.main()
