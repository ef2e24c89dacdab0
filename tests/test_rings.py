"""[66], [7]: chains and rings of a tie."""

import itertools
import random
import unittest

from ownmoment.closings import closing_table, does_close
from ownmoment.errors import TooMany
from ownmoment.rings import chain_of, most_in_chain, order_fault, ring_of
from tests import model, tie_model
from tests.machine_books import labelled, one_row
from tests.samples import WIDE_MACHINE, asked
from tests.test_closings import GREAT_TIE, great_machine
from tests.test_machines import LABELLED, chance_run
from tests.test_ties import APART_LABELLED, ELDER_LABELLED
from tests.tie_model import chance_tie

LATER, EARLIER = "later", "earlier"
A, B, C, K, M = (0, 0), (0, 1), (0, 2), (1, 0), (1, 1)
ALL = (WIDE_MACHINE, LABELLED, APART_LABELLED, ELDER_LABELLED)


def drawn(seed, many):
    """Tuples (machine, tie)."""
    chance = random.Random(seed)
    for at in range(many):
        machine = ALL[at] if at < len(ALL) else tie_model.labelled(chance, chance.choice((2, 3, 4)))
        yield machine, chance_tie(chance, machine, sides=chance.choice(((0, 1, 2), (1, 2), (1,), (0, 1))))


def stairs(many, rows=1):
    """As many points as labels, one behind the other, each of its own class."""
    points = tuple((((at, LATER, 0), (0, EARLIER, 0))[:rows], 1, (0, at)) for at in range(many))
    return ((0,), points, tuple(((at + 1, (-1,)) if at + 1 < many else None,) for at in range(many)))


class ChainsTest(unittest.TestCase):

    def check_named(self, run, chain):
        """The things of the run are those of the chain, with the numbers from 0 on, kind by kind."""
        self.assertTrue(type(run) is list and type(chain) is list)
        self.assertEqual({x for _, x in run}, set(chain))
        self.assertEqual(len(set(chain)), len(chain))
        for kind in (0, 1):
            self.assertEqual([x[1] for x in chain if x[0] == kind], list(range(len([x for x in chain if x[0] == kind]))))

    def figures(self, machine, found):
        self.assertIs(type(found), tuple)
        run, chain = found
        self.check_named(run, chain)
        figures = model.figures_behind(machine, run)
        self.assertIs(type(figures), list, "no run")
        return [dict(figures)[x] for x in chain]

    def check_chain(self, machine, tie, found):
        figures = self.figures(machine, found)
        self.assertTrue(all(tie_model.is_tied(machine, tie, one, other) for one, other in zip(figures, figures[1:])))
        return len(figures)

    def check_ring(self, machine, tie, found):
        figures = self.figures(machine, found)
        self.assertGreater(len(figures), 1)
        self.assertTrue(all(tie_model.is_tied(machine, tie, one, other) for one, other in zip(figures, figures[1:] + figures[:1])))
        return len(figures)

    def check_fault(self, machine, tie, found):
        figures = self.figures(machine, found)
        tied = [tie_model.is_tied(machine, tie, one, other) for one, other in zip(figures, figures[1:])]
        self.assertTrue(all(tied) and len(tied) in (1, 2))
        if len(tied) == 1:
            self.assertTrue(tie_model.is_tied(machine, tie, figures[1], figures[0]))
        else:
            self.assertFalse(tie_model.is_tied(machine, tie, figures[0], figures[2]))
        return len(figures)

    def test_by_hand(self):
        # Who came first to who came later: for ever, but never round.
        tie = (((0, 0), (0, 0), (1,)),)
        self.assertIsNone(most_in_chain(ELDER_LABELLED, tie))
        self.assertEqual(chain_of(ELDER_LABELLED, tie, 3), ([(0, A), (0, B), (0, C)], [A, B, C]))
        self.assertIsNone(ring_of(ELDER_LABELLED, tie))
        self.assertIsNone(order_fault(ELDER_LABELLED, tie))
        # Who has asked to who has not.
        tie = (((0, 1), (0, 0), (0,)),)
        self.assertEqual(most_in_chain(ELDER_LABELLED, tie), 2)
        self.assertEqual([self.check_chain(ELDER_LABELLED, tie, chain_of(ELDER_LABELLED, tie, many)) for many in (1, 2)], [1, 2])
        self.assertEqual([chain_of(ELDER_LABELLED, tie, many) for many in range(3, 13)], [None] * 10)
        # Nothing is ever tied.
        for tie in ((), (((0, 9), (0, 0), (0,)),), (((0, 2), (0, 0), (2,)),)):
            self.assertEqual(most_in_chain(ELDER_LABELLED, tie), 1)
            self.assertEqual(self.check_chain(ELDER_LABELLED, tie, chain_of(ELDER_LABELLED, tie, 1)), 1)
            self.assertEqual([chain_of(ELDER_LABELLED, tie, many) for many in range(2, 13)], [None] * 11)
            self.assertIsNone(ring_of(ELDER_LABELLED, tie))
            self.assertIsNone(order_fault(ELDER_LABELLED, tie))
        # Each to each other one.
        tie = (((0, 0), (0, 0), (0,)),)
        self.assertEqual(self.check_ring(ELDER_LABELLED, tie, ring_of(ELDER_LABELLED, tie)), 2)
        self.assertEqual(self.check_fault(ELDER_LABELLED, tie, order_fault(ELDER_LABELLED, tie)), 2)
        # From those at the point 1 to the point 2, and from there to those at the point 0, but no further.
        tie = (((0, 1), (0, 2), (0,)), ((0, 2), (0, 0), (0,)))
        self.assertEqual(most_in_chain(ELDER_LABELLED, tie), 3)
        self.assertIsNone(ring_of(ELDER_LABELLED, tie))
        self.assertEqual(self.check_fault(ELDER_LABELLED, tie, order_fault(ELDER_LABELLED, tie)), 3)
        self.assertIsNone(order_fault(ELDER_LABELLED, tie + (((0, 1), (0, 0), (0,)),)))

    def test_things_kind_by_kind(self):
        # From kind to kind, and back.
        tie = (((0, 7), (1, 0), (0,)), ((1, 0), (0, 7), (0,)))
        run, chain = chain_of(LABELLED, tie, 5)
        self.assertEqual(chain, [A, K, B, M, C])
        self.assertEqual(self.check_chain(LABELLED, tie, (run, chain)), 5)
        self.assertEqual(self.check_ring(LABELLED, tie, ring_of(LABELLED, tie)), 2)

    def test_rings_of_many(self):
        # Only from each label to the next one, and from the last to the first.
        for many in (2, 3, 5, 8, 12):
            machine = stairs(many)
            tie = tuple(((0, at), (0, (at + 1) % many), (0,)) for at in range(many))
            found = ring_of(machine, tie)
            self.assertEqual(self.check_ring(machine, tie, found), many)
            self.assertIsNone(most_in_chain(machine, tie))
            self.assertEqual(self.check_chain(machine, tie, chain_of(machine, tie, 12)), 12)
            tie = tie[:-1]
            self.assertIsNone(ring_of(machine, tie))
            self.assertEqual(most_in_chain(machine, tie), many)
            self.assertEqual(self.check_chain(machine, tie, chain_of(machine, tie, many)), many)
            self.assertIsNone(chain_of(machine, tie, many + 1))
            # From a later one to an earlier one alone it would go for ever, but not round.
            tie = tuple(((0, at), (0, (at + 1) % many), (0, 2)) for at in range(many))
            machine = stairs(many, 2)
            self.assertIsNone(ring_of(machine, tie))
            self.assertIsNone(most_in_chain(machine, tie))
            self.assertFalse(any(does_close(machine, tie, entry) for entry in closing_table(machine, tie)))

    def test_a_ring_that_one_moment_bars(self):
        # Those that have asked stand in the second row by asking, and all in the first one by coming.
        points = ((((0, EARLIER, 0), (0, EARLIER, 0)), 1, (0, 0)), (((0, EARLIER, 0), (0, EARLIER, 1)), 2, (0, 1)))
        machine = ((0,), points, (((1, (0, -1)),), (None,)))
        self.assertTrue(model.ok_machine(machine))
        # Ahead by coming and behind by asking: never both ways about, but for long.
        tie = (((0, 1), (0, 1), (1, 2)),)
        self.assertIsNone(ring_of(machine, tie))
        self.assertIsNone(order_fault(machine, tie))
        self.assertIsNone(most_in_chain(machine, tie))
        self.assertEqual(self.check_chain(machine, tie, chain_of(machine, tie, 12)), 12)
        # Two things can not go round, nor three in the second case.
        for many, tie in ((3, (((0, 0), (0, 1), (2, 1)), ((0, 1), (0, 0), (2, 2)), ((0, 0), (0, 0), (0, 1)))),
                          (4, (((0, 1), (0, 0), (1, 2)), ((0, 0), (0, 1), (0, 2)), ((0, 0), (0, 1), (1, 0))))):
            self.assertEqual([tie_model.has_ring(machine, tie, size) for size in range(2, many + 1)], [False] * (many - 2) + [True])
            self.assertEqual(self.check_ring(machine, tie, ring_of(machine, tie)), many)

    def test_beside_all_companies(self):
        seen = set()
        for machine, tie in drawn(491, 420):
            most = max(live for _, live, _ in machine[1])
            if len(machine[1]) > 3 or sum(live for _, live, _ in machine[1]) > 6:
                continue
            ring = ring_of(machine, tie)
            sizes = [many for many in ((2, 3, 4) if most == 1 else (2, 3)) if tie_model.has_ring(machine, tie, many)]
            if sizes:
                self.assertEqual(self.check_ring(machine, tie, ring), sizes[0])
                seen.add(("ring", sizes[0]))
            elif ring is not None:
                self.assertGreater(self.check_ring(machine, tie, ring), 4 if most == 1 else 3)
            else:
                seen.add(("ring", None))
            fault = order_fault(machine, tie)
            self.assertEqual(fault is None, tie_model.is_order(machine, tie), (machine, tie))
            seen.add(("fault", fault and self.check_fault(machine, tie, fault)))
            if fault is None:
                self.assertIsNone(ring)
            greatest = most_in_chain(machine, tie)
            seen.add(("most", greatest))
            for many in range(1, 5 if most == 1 else 4):
                self.assertEqual(greatest is None or greatest >= many, tie_model.has_chain(machine, tie, many))
        wanted = {("ring", 2), ("ring", 3), ("ring", None), ("fault", 2), ("fault", 3), ("fault", None), ("most", 1), ("most", 2), ("most", 3), ("most", None)}
        self.assertTrue(wanted <= seen, seen)

    def test_greater_ones(self):
        seen = set()
        for machine, tie in drawn(492, 300):
            closes = [entry for entry in closing_table(machine, tie) if tie_model.closes(machine, tie, entry)]
            ring = asked(ring_of, machine, tie)
            self.assertEqual(ring is None, not closes)
            if ring is not None:
                entries = tie_model.all_entries(machine, tie)
                self.assertEqual(self.check_ring(machine, tie, ring), min(len(entries[entry][0]) for entry in closes))
                seen.add(len(ring[1]))
            greatest = asked(most_in_chain, machine, tie)
            for many in range(1, 13):
                chain = asked(chain_of, machine, tie, many)
                self.assertEqual(chain is None, greatest is not None and many > greatest)
                if chain is not None:
                    self.assertEqual(self.check_chain(machine, tie, chain), many)
            fault = asked(order_fault, machine, tie)
            if fault is not None:
                self.check_fault(machine, tie, fault)
            elif ring is not None:
                self.fail("an order with a ring")
        self.assertTrue({2, 3} <= seen, seen)

    def test_played(self):
        """What runs lead to is never more than what is told."""
        chance = random.Random(493)
        for machine, tie in drawn(494, 150):
            greatest = most_in_chain(machine, tie)
            is_order, has_ring = order_fault(machine, tie) is None, ring_of(machine, tie) is not None
            figures = dict(model.figures_behind(machine, chance_run(chance, machine, 20)))
            tied = {(x, y) for x, y in itertools.permutations(figures, 2) if tie_model.is_tied(machine, tie, figures[x], figures[y])}
            if is_order:
                self.assertTrue(all((x, w) in tied for x, y in tied for z, w in tied if y == z))
            if not has_ring:
                # Without a ring what is tied can be taken away from its ends on.
                left = set(tied)
                while any(all(one[0] != y for one in left) for _, y in left):
                    left = {(x, y) for x, y in left if any(one[0] == y for one in left)}
                self.assertFalse(left)
            for many in range(2, 5):
                for chain in itertools.permutations(figures, many):
                    if all(pair in tied for pair in zip(chain, chain[1:])):
                        self.assertTrue(greatest is None or many <= greatest)

    def test_too_many(self):
        machine = great_machine(50, 60, 0)
        self.assertIsNone(ring_of(machine, GREAT_TIE))
        machine = great_machine(50, 60, 1)
        self.assertEqual(most_in_chain(machine, GREAT_TIE), 2)
        self.assertEqual(self.check_chain(machine, GREAT_TIE, chain_of(machine, GREAT_TIE, 2)), 2)
        self.assertIsNone(chain_of(machine, GREAT_TIE, 3))
        self.assertIsNone(order_fault(machine, GREAT_TIE))
        with self.assertRaises(TooMany) as caught:
            ring_of(machine, GREAT_TIE)
        self.assertEqual(caught.exception.most, 6000)
        # Though there is a ring of two.
        tie = GREAT_TIE + (((0, 0), (0, 0), (0,)),)
        with self.assertRaises(TooMany):
            ring_of(machine, tie)
        self.assertIsNone(most_in_chain(machine, tie))
        self.assertEqual(self.check_chain(machine, tie, chain_of(machine, tie, 12)), 12)
        self.assertEqual(self.check_fault(machine, tie, order_fault(machine, tie)), 2)

    def test_orders_of_many_points(self):
        # Each to those behind it, whatever its label is: an order, in which a chain has no end.
        labels = [(0, at % 3) for at in range(80)]
        machine = labelled(one_row((0,), [(at // 2, EARLIER, 0, 1) for at in range(80)], tuple(((at + 1, (-1,)) if at < 79 else None,) for at in range(80))), labels)
        tie = tuple(((0, mine), (0, theirs), (1,)) for mine in range(3) for theirs in range(3))
        with self.assertRaises(TooMany):
            closing_table(machine, tie)
        self.assertIsNone(order_fault(machine, tie))
        self.assertIsNone(most_in_chain(machine, tie))
        self.assertEqual(self.check_chain(machine, tie, chain_of(machine, tie, 12)), 12)
        # One of these left out: then a thing of the first label is not tied to all behind it.
        self.assertEqual(self.check_fault(machine, tie[1:], order_fault(machine, tie[1:])), 3)


if __name__ == "__main__":
    unittest.main()
