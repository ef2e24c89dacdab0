"""[55]: logs whose order is known in part."""

import itertools
import random
import unittest

from ownmoment.errors import TooMany
from ownmoment.orders import critical_tuples, order_for_row, row_bar, rows_that_stand, surely_ahead
from tests import machine_model, model
from tests.machine_books import APART_FULL, COME, ELDER, KINDS, MORE, SORT, USE
from tests.samples import FRONT_MACHINE, LEAST_MACHINE, WIDE_MACHINE, asked
from tests.test_least import BEHIND
from tests.test_machines import LABELLED, ROWS, chance_machine, chance_run

LATER, EARLIER = "later", "earlier"
A, B, C, D, K = (0, 0), (0, 1), (0, 2), (0, 3), (1, 0)
ALL = (FRONT_MACHINE, LEAST_MACHINE, WIDE_MACHINE, LABELLED, ROWS, BEHIND, APART_FULL, ELDER, KINDS, MORE, SORT)

# With so many orders each: ten, or nine, things that come, each pair of them as it is told.
TEN = [(0, 1), (0, 8), (0, 9), (1, 8), (2, 3), (2, 4), (2, 7), (3, 5), (4, 5), (4, 6), (4, 7), (4, 8), (5, 6), (5, 9), (8, 9)]
NINE = [(0, 2), (0, 5), (0, 6), (0, 7), (1, 4), (1, 5), (2, 8), (3, 7), (4, 6), (6, 8), (7, 8)]


def is_order(log, before, order):
    """By the definition."""
    if type(order) is not list or sorted(order) != list(range(len(log))):
        return False
    place = {index: at for at, index in enumerate(order)}
    own = all(place[i] < place[j] for i, j in itertools.combinations(range(len(log)), 2) if log[i][1] == log[j][1])
    return own and all(place[i] < place[j] for i, j in before)


def all_orders(log, before):
    """Index by index, whatever may come next."""
    known = set(before) | {(i, j) for i, j in itertools.combinations(range(len(log)), 2) if log[i][1] == log[j][1]}
    found = [[]]
    for _ in log:
        found = [order + [j] for order in found for j in range(len(log))
                 if j not in order and all(i in order for i, k in known if k == j)]
    assert all(is_order(log, before, order) for order in found[:50])
    return found


def row_in(machine, log, order, row):
    """The row behind the log in an order."""
    return tuple(machine_model.row_of(machine, row, model.figures_behind(machine, [log[index] for index in order])))


def drawn_before(chance, log, share):
    return [(i, j) for i, j in itertools.combinations(range(len(log)), 2) if log[i][1] != log[j][1] and chance.random() < share]


def drawn(seed, many, length):
    """Tuples (machine, log, before, row)."""
    chance = random.Random(seed)
    for at in range(many):
        machine = ALL[at] if at < len(ALL) else chance_machine(chance)
        log = chance_run(chance, machine, length)
        yield machine, log, drawn_before(chance, log, chance.choice((0, .1, .3))), chance.randrange(len(machine[1][0][0]))


def critical(machine, log, row):
    found = {}
    for x, (point, times) in model.figures_behind(machine, log):
        found[x] = times[machine[1][point][0][row][2]]
    return found


class CriticalTest(unittest.TestCase):

    def test_by_hand(self):
        log = [(0, A), (1, A), (0, B), (1, A), (0, C), (-1, C)]
        self.assertEqual(critical_tuples(FRONT_MACHINE, log, 0), [(A, 3), (B, 2)])
        self.assertEqual(critical_tuples(FRONT_MACHINE, [], 0), [])
        log = [(0, B), (0, A), (1, A), (2, B), (1, B)]
        self.assertEqual([critical_tuples(APART_FULL, log, row) for row in (0, 1)], [[(A, 2), (B, 4)], [(A, 1), (B, 3)]])
        self.assertEqual(critical_tuples(ELDER, [(0, A), (1, A), (2, A), (0, B)], 0), [(A, 1), (B, 3)])

    def test_each_row(self):
        for machine, log, _, _ in drawn(421, 120, 14):
            for row in range(len(machine[1][0][0])):
                self.assertEqual(asked(critical_tuples, machine, log, row), sorted(critical(machine, log, row).items()))


class OrdersTest(unittest.TestCase):

    def test_of_the_document(self):
        log = [(0, A), (1, A), (0, B), (1, A), (1, B)]
        self.assertEqual(rows_that_stand(FRONT_MACHINE, log, [], 0), [(A, B), (B, A)])
        self.assertEqual(surely_ahead(FRONT_MACHINE, log, [(3, 4)], 0), [(B, A)])

    def test_beside_all_orders(self):
        seen = set()
        for machine, log, before, row in drawn(422, 260, 7):
            orders = all_orders(log, before)
            if len(orders) > 300:
                continue
            rows = {row_in(machine, log, order, row) for order in orders}
            there = sorted(orders and rows and list(rows)[0])
            self.assertEqual(asked(rows_that_stand, machine, log, before, row), sorted(rows))
            sure = sorted((x, y) for x, y in itertools.permutations(there, 2) if all(one.index(x) < one.index(y) for one in rows))
            self.assertEqual(asked(surely_ahead, machine, log, before, row), sure)
            seen.add((len(rows) > 1, len(there), bool(sure)))
            for things in itertools.permutations(there):
                seen.add(self.check_row(machine, log, before, row, list(things), things in rows))
        self.assertTrue({True, "class", "ring", (True, 2, False), (True, 3, True), (True, 3, False), (False, 3, True)} <= seen, seen)

    def check_row(self, machine, log, before, row, things, stands):
        """Just one of both tells something, and what it tells is so."""
        order = asked(order_for_row, machine, log, before, row, things)
        bar = asked(row_bar, machine, log, before, row, things)
        self.assertEqual([order is None, bar is None], [not stands, stands], (machine, log, before, row, things))
        if stands:
            self.assertTrue(is_order(log, before, order))
            self.assertEqual(row_in(machine, log, order, row), tuple(things))
            return True
        self.check_bar(machine, log, before, row, things, bar)
        return bar[0]

    def check_bar(self, machine, log, before, row, things, bar):
        self.assertIs(type(bar), tuple)
        figures = dict(model.figures_behind(machine, log))
        place = {x: machine[1][figures[x][0]][0][row] for x in things}
        wrong = [(x, y) for x, y in zip(things, things[1:]) if place[y][0] < place[x][0]]
        if wrong:
            self.assertEqual(bar, ("class", *wrong[0]))
            return
        word, steps = bar
        self.assertEqual(word, "ring")
        self.assertTrue(type(steps) is list and len(steps) >= 2)
        index = critical(machine, log, row)
        for (i, j, why), (following, _, _) in zip(steps, steps[1:] + steps[:1]):
            self.assertEqual(j, following)
            if why == "own":
                self.assertTrue(i < j and log[i][1] == log[j][1])
            elif why == "told":
                self.assertIn((i, j), before)
            else:
                self.assertEqual(why, "row")
                x, y = [z for k in (i, j) for z in things if index[z] == k]
                self.assertEqual(place[x][0], place[y][0])
                self.assertEqual(things.index(x) < things.index(y), place[x][1] == EARLIER)

    def test_longer_logs(self):
        seen = set()
        chance = random.Random(423)
        for machine, log, before, row in drawn(424, 150, 40):
            there = sorted(x for x, _ in model.figures_behind(machine, log))
            for _ in range(4):
                things = list(row_in(machine, log, range(len(log)), row))
                if chance.random() < .7 and len(things) > 1:
                    at = chance.randrange(len(things) - 1)
                    things[at:at + 2] = things[at:at + 2][::-1]
                order = order_for_row(machine, log, before, row, things)
                seen.add(self.check_row(machine, log, before, row, things, order is not None))
            sure = surely_ahead(machine, log, before, row)
            try:
                rows = rows_that_stand(machine, log, before, row)
            except TooMany:
                seen.add("many")
                continue
            self.assertIn(row_in(machine, log, range(len(log)), row), rows)
            self.assertEqual(sure, sorted((x, y) for x, y in itertools.permutations(there, 2) if all(one.index(x) < one.index(y) for one in rows)))
            if len(there) < 6:
                for things in itertools.permutations(there):
                    self.assertEqual(things in rows, order_for_row(machine, log, before, row, list(things)) is not None)
        self.assertEqual(seen, {True, "class", "ring", "many"})

    def test_rings_by_hand(self):
        log = [(0, A), (0, B), (1, A), (1, B)]
        # B came behind A, which is told, and is to be ahead by coming first.
        self.assertEqual(row_bar(COME, log[:2], [(0, 1)], 0, [B, A])[0], "ring")
        self.assertEqual(sorted(row_bar(COME, log[:2], [(0, 1)], 0, [B, A])[1]), [(0, 1, "told"), (1, 0, "row")])
        self.assertIsNone(row_bar(COME, log[:2], [], 0, [B, A]))
        self.assertEqual(order_for_row(COME, log[:2], [], 0, [B, A]), [1, 0])
        self.assertIsNone(order_for_row(COME, log[:2], [(0, 1)], 0, [B, A]))
        # B came behind deed 1 of A, and so its own deed 1 is later.
        self.assertEqual(sorted(row_bar(USE, [(0, A), (1, A), (0, B), (1, B)], [(1, 2)], 0, [A, B])[1]), [(1, 2, "told"), (2, 3, "own"), (3, 1, "row")])
        self.assertEqual(row_bar(FRONT_MACHINE, log[:3], [], 0, [B, A]), ("class", B, A))
        # The first such neighbours of two.
        log = [(0, A), (0, B), (0, C), (0, D), (1, B), (1, D)]
        self.assertEqual(row_bar(FRONT_MACHINE, log, [], 0, [A, B, C, D]), ("class", A, B))
        self.assertEqual(row_bar(FRONT_MACHINE, log, [], 0, [B, A, D, C]), ("class", A, D))
        self.assertEqual(row_bar(FRONT_MACHINE, log, [(4, 5)], 0, [B, A, D, C]), ("class", A, D))

    def test_comings_again(self):
        # All tuples of a thing stay in their order, those before it went as well.
        log = [(0, A), (-1, A), (0, B), (0, A)]
        self.assertEqual(rows_that_stand(COME, log, [(1, 2)], 0), [(A, B), (B, A)])
        self.assertEqual(rows_that_stand(COME, log, [(2, 3)], 0), [(B, A)])
        self.assertEqual(surely_ahead(COME, log, [(2, 3)], 0), [(B, A)])
        log = [(0, B), (0, A), (-1, A), (0, A)]
        self.assertEqual(surely_ahead(COME, log, [(0, 1)], 0), [(B, A)])
        self.assertEqual(surely_ahead(COME, log, [], 0), [])

    def test_nothing_there(self):
        for log in ([], [(0, A), (-1, A)], [(0, A), (0, B), (-1, B), (-1, A)]):
            self.assertEqual(rows_that_stand(FRONT_MACHINE, log, [], 0), [()])
            self.assertEqual(surely_ahead(FRONT_MACHINE, log, [], 0), [])
            self.assertTrue(is_order(log, [], order_for_row(FRONT_MACHINE, log, [], 0, [])))
            self.assertIsNone(row_bar(FRONT_MACHINE, log, [], 0, []))

    def test_many_orders_few_rows(self):
        # Sixty tuples of twelve things: where the last deeds stand is known but for one pair.
        things = [(0, number) for number in range(12)]
        log = [(0, x) for x in things] + [(1, x) for x in things] * 4
        before = [(48 + at, 49 + at) for at in range(11) if at != 5]
        rows = rows_that_stand(USE, log, before, 0)
        self.assertGreater(len(rows), 100)
        before = sorted(before + [(52, 54), (53, 55)])
        rows = rows_that_stand(USE, log, before, 0)
        back = tuple(things[::-1])
        self.assertEqual(rows, sorted([back, back[:5] + (things[5], things[6]) + back[7:]]))
        self.assertEqual(rows_that_stand(USE, log, sorted(before + [(53, 54)]), 0), [back])
        sure = surely_ahead(USE, log, before, 0)
        self.assertEqual(len(sure), 65)
        self.assertEqual(len(surely_ahead(USE, log, sorted(before + [(53, 54)]), 0)), 66)
        # All of one class behind all of the other, whatever was done when: 12 times as many rows, but no more.
        log = [(0, x) for x in things] + [(1, x) for x in things[:3]]
        before = [(at, at + 1) for at in range(11)]
        self.assertEqual(len(rows_that_stand(FRONT_MACHINE, log, before, 0)), 6)

    def test_classes_hang_together(self):
        log = [(0, A), (0, B), (0, C), (0, D), (1, C), (1, D)]
        self.assertEqual(rows_that_stand(FRONT_MACHINE, log, [(0, 4), (1, 4), (0, 5), (1, 5)], 0),
                         [(C, D, A, B), (C, D, B, A), (D, C, A, B), (D, C, B, A)])
        self.assertEqual(rows_that_stand(FRONT_MACHINE, log, [(0, 4), (1, 5)], 0),
                         [(C, D, A, B), (C, D, B, A), (D, C, A, B), (D, C, B, A)])
        self.assertEqual(rows_that_stand(FRONT_MACHINE, [(0, A), (1, A), (0, B), (0, C), (1, C)], [(1, 2), (2, 4)], 0), [(C, A, B)])
        # Deed 1 of C came ahead of A, and B ahead of deed 1 of D: if C is ahead of D, then B came ahead of A.
        log = [(0, C), (0, D), (1, C), (0, A), (0, B), (1, D)]
        self.assertEqual(rows_that_stand(FRONT_MACHINE, log, [(2, 3), (4, 5)], 0), [(C, D, B, A), (D, C, A, B), (D, C, B, A)])
        self.assertEqual(surely_ahead(FRONT_MACHINE, log, [(2, 3), (4, 5)], 0), sorted((x, y) for x in (C, D) for y in (A, B)))

    def test_too_many_rows(self):
        for machine in (COME, USE):
            log = [(0, (0, number)) for number in range(10)]
            self.assertEqual(len(rows_that_stand(machine, log, TEN, 0)), 1000)
            with self.assertRaises(TooMany) as caught:
                rows_that_stand(machine, log[:9], NINE, 0)
            self.assertEqual(caught.exception.most, 1000)
            # By rows alone: with ten deeds that nobody sees there are millions of orders.
        log = [(0, (0, number)) for number in range(10)] + [(1, (0, number)) for number in range(10)]
        self.assertEqual(len(rows_that_stand(COME, log, TEN, 0)), 1000)
        with self.assertRaises(TooMany):
            rows_that_stand(COME, [(0, (0, number)) for number in range(40)], [], 0)
        # The other functions tell all the same.
        log = [(0, (0, number)) for number in range(40)]
        self.assertEqual(surely_ahead(COME, log, [], 0), [])
        self.assertEqual(order_for_row(COME, log, [], 0, [x for _, x in log[::-1]]), list(range(40))[::-1])


if __name__ == "__main__":
    unittest.main()
