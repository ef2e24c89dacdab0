"""[60]: the fewest deeds to a wished row."""

import itertools
import random
import unittest

from ownmoment.leading import fewest_to, is_price_table, prices_to, ways_to_stand
from tests import machine_model, model
from tests.machine_books import APART_FULL, ELDER, KINDS, MORE, SORT, USE, one_row
from tests.samples import FRONT_MACHINE, LEAST_MACHINE, WIDE_MACHINE, any_values, asked, variants
from tests.test_least import BEHIND
from tests.test_machines import LABELLED, ROWS, chance_machine, chance_run

LATER, EARLIER = "later", "earlier"
A, B, C, D, K = (0, 0), (0, 1), (0, 2), (0, 3), (1, 0)
ALL = (FRONT_MACHINE, LEAST_MACHINE, WIDE_MACHINE, LABELLED, ROWS, BEHIND, APART_FULL, ELDER, KINDS, MORE, SORT)


def done(machine, figures, deed, x, now):
    """The figures behind a deed at the moment now, or None."""
    there = dict(figures)
    if deed == 0:
        if x in there:
            return None
        there[x] = (machine[0][x[0]], (now,))
    else:
        if x not in there:
            return None
        point, times = there[x]
        entry = machine[2][point][deed - 1]
        if entry is None:
            return None
        there[x] = (entry[0], tuple(now if k < 0 else times[k] for k in entry[1]))
    return sorted(there.items())


def all_done(machine, figures, run):
    """The figures behind a run that goes on from figures, or None."""
    now = max((moment for _, (_, times) in figures for moment in times), default=-1) + 1
    for at, (deed, x) in enumerate(run):
        figures = done(machine, figures, deed, x, now + at)
        if figures is None:
            return None
    return figures


def states_from(machine, figures, movers, comers=()):
    """All that runs of some things lead to: tuples (number of tuples, things that did one, figures), the fewest first.

    Moments are numbered anew, so that there are not too many; the order of those that were and of the others is kept.
    """
    old = sorted(moment for _, (_, times) in figures for moment in times)
    start = [(x, (point, tuple(old.index(moment) for moment in times))) for x, (point, times) in figures]
    layer, seen = [(0, (), start)], set()
    seen.add((lasting_of(start), ()))
    while layer:
        following = []
        for many, moved, now in layer:
            yield many, moved, now
            for x in sorted({*movers, *comers}):
                deeds = range(1, len(machine[2][0]) + 1)
                if x in comers:
                    deeds = range(len(machine[2][0]) + 1)
                for deed in deeds:
                    behind = done(machine, now, deed, x, 10 ** 6)
                    if behind is None:
                        continue
                    # Old moments keep their numbers.
                    fresh = sorted({moment for _, (_, times) in behind for moment in times if moment >= len(old)})
                    behind = [(y, (point, tuple(moment if moment < len(old) else len(old) + fresh.index(moment) for moment in times)))
                              for y, (point, times) in behind]
                    who = tuple(sorted({*moved, x}))
                    if (lasting_of(behind), who) not in seen:
                        seen.add((lasting_of(behind), who))
                        following.append((many + 1, who, behind))
        layer = following


def lasting_of(figures):
    return tuple(figures)


def rows_of(machine, row, states):
    """For each row the fewest tuples that lead there."""
    found = {}
    for many, _, figures in states:
        found.setdefault(tuple(machine_model.row_of(machine, row, figures)), many)
    return found


def small(chance, rows=None):
    """A machine that is not too much for a search through all runs."""
    while True:
        machine = chance_machine(chance)
        if 1 <= len(machine[2][0]) <= 3 and len(machine[1]) <= 4 and (rows is None or rows == len(machine[1][0][0])):
            return machine


def drawn(seed, many, most=3):
    """Tuples (machine, figures, row) of at most so many things."""
    chance = random.Random(seed)
    for at in range(many):
        machine = ALL[at] if at < len(ALL) else small(chance)
        figures = model.figures_behind(machine, chance_run(chance, machine, 9))
        kept = chance.sample(figures, min(len(figures), chance.randrange(most + 1)))
        figures = [one for one in figures if one in kept]
        yield machine, figures, chance.randrange(len(machine[1][0][0]))


def ways_by_all(machine, figure, row):
    """By going through all lists of deeds of each length until nothing is new."""
    layer, found, seen = [((), figure)], {}, {figure}
    while layer:
        following = []
        for deeds, (point, times) in sorted(layer):
            rank, _, at = machine[1][point][0][row]
            found.setdefault((rank, times[at]), deeds)
            for which, entry in enumerate(machine[2][point]):
                if entry is not None:
                    following.append((deeds + (which + 1,), (entry[0], tuple(-1 if k < 0 else times[k] for k in entry[1]))))
        fresh = {state for _, state in following} - seen
        layer = [one for one in following if one[1] in fresh]
        seen |= fresh
    return [(*stance, found[stance]) for stance in sorted(found)]


def follows(way, one, other):
    """Whether the stance one can be behind the stance other."""
    if one[0] != other[0]:
        return one[0] > other[0]
    if way == LATER:
        return other[1] == -1 or (one[1] != -1 and one[1] < other[1])
    return one[1] == -1 or (other[1] != -1 and one[1] > other[1])


def ways_of(machine, row):
    return {stands[row][0]: stands[row][1] for stands, _, _ in machine[1]}


def prices_by_all(machine, figures, row, things):
    """By going through all ways of all things behind, each beside each."""
    ways = ways_of(machine, row)
    table = []
    for at in range(len(things)):
        options = [ways_by_all(machine, dict(figures)[x], row) for x in things[at:]]
        found = {}
        for chosen in itertools.product(*options):
            if all(follows(ways[one[0]], one[:2], other[:2]) for other, one in itertools.combinations(chosen, 2)):
                total = sum(len(deeds) for _, _, deeds in chosen)
                key = chosen[0][:2] + (len(chosen[0][2]),)
                found[key] = min(total, found.get(key, total))
        table.append([(*key, found[key]) for key in sorted(found)])
    return table


class WaysTest(unittest.TestCase):

    def test_of_the_document(self):
        figures = [(A, (1, (3,))), (B, (0, (2,)))]
        self.assertEqual(ways_to_stand(FRONT_MACHINE, (0, (2,)), 0), [(0, -1, (1,)), (1, 2, ())])
        self.assertEqual([fewest_to(FRONT_MACHINE, figures, 0, [B, A]), prices_to(FRONT_MACHINE, figures, 0, [B, A])],
                         [(1, [(1, B)]), [[(0, -1, 1, 1)], [(0, -1, 1, 1), (0, 3, 0, 0)]]])

    def test_by_hand(self):
        self.assertEqual(ways_to_stand(FRONT_MACHINE, (1, (7,)), 0), [(0, -1, (1,)), (0, 7, ())])
        self.assertEqual(ways_to_stand(ELDER, (0, (7,)), 0), [(0, -1, (1, 2)), (1, 7, ())])
        self.assertEqual(ways_to_stand(ELDER, (1, (4, 7)), 0), [(0, 7, (2,)), (1, 4, ())])
        self.assertEqual(ways_to_stand(ELDER, (2, (7,)), 0), [(0, 7, ())])
        self.assertEqual(ways_to_stand(LEAST_MACHINE, (0, (0,)), 0), [(0, 0, ())])
        self.assertEqual([ways_to_stand(APART_FULL, (0, (5,)), row) for row in (0, 1)], [[(0, -1, (1,)), (1, 5, ())], [(0, -1, (2,)), (1, 5, ())]])

    def test_the_least_of_the_shortest(self):
        # To the last point by 2 and 1, or by 1 and 2, or by 1, 3 and 1.
        points = [(0, LATER, 0, 1), (0, LATER, 0, 1), (0, LATER, 0, 1), (0, LATER, 0, 1), (1, LATER, 0, 1)]
        machine = one_row((0,), points, (((1, (0,)), (2, (0,)), None), (None, (4, (0,)), (3, (0,))), ((4, (0,)), None, None), ((4, (0,)), None, None), (None,) * 3))
        self.assertEqual(ways_to_stand(machine, (0, (3,)), 0), [(0, 3, ()), (1, 3, (1, 2))])
        # The stance by another point, which the deeds come to later but with a lesser list.
        points = [(0, LATER, 0, 1), (0, LATER, 0, 1), (1, LATER, 0, 1), (1, LATER, 0, 1)]
        machine = one_row((0,), points, (((1, (0,)), (3, (0,))), ((2, (0,)), None), (None, None), (None, None)))
        self.assertEqual(ways_to_stand(machine, (0, (3,)), 0), [(0, 3, ()), (1, 3, (2,))])

    def test_as_the_definition_says(self):
        seen = set()
        for machine, figures, row in drawn(441, 400):
            for _, figure in figures:
                found = asked(ways_to_stand, machine, figure, row)
                self.assertEqual(found, ways_by_all(machine, figure, row))
                seen |= {(moment == -1, min(len(deeds), 3)) for _, moment, deeds in found}
        self.assertTrue({(False, 0), (False, 1), (False, 2), (True, 1), (True, 2), (True, 3)} <= seen, seen)


class FewestTest(unittest.TestCase):

    def check(self, machine, figures, row, things, number):
        found = asked(fewest_to, machine, figures, row, things)
        if number is None:
            self.assertIsNone(found, (machine, figures, row, things))
            return
        self.assertEqual(found[0], number, (machine, figures, row, things))
        self.assertTrue(type(found) is tuple and type(found[1]) is list and len(found[1]) == number)
        self.assertTrue(all(deed > 0 for deed, _ in found[1]))
        behind = all_done(machine, figures, found[1])
        self.assertIsNotNone(behind)
        self.assertEqual(machine_model.row_of(machine, row, behind), things)

    def test_beside_a_search(self):
        seen = set()
        for machine, figures, row in drawn(442, 150):
            movers = [x for x, _ in figures]
            rows = rows_of(machine, row, states_from(machine, figures, movers))
            for things in itertools.permutations(movers):
                self.check(machine, figures, row, list(things), rows.get(things))
                seen.add((len(things), min(rows.get(things, 9), 3) if things in rows else None))
        self.assertTrue({(0, 0), (2, None), (3, None), (3, 0), (3, 1), (3, 2), (3, 3)} <= seen, seen)

    def test_nothing_there(self):
        self.assertEqual(fewest_to(FRONT_MACHINE, [], 0, []), (0, []))
        self.assertEqual(prices_to(FRONT_MACHINE, [], 0, []), [])
        self.assertIs(is_price_table(FRONT_MACHINE, [], 0, [], []), True)

    def test_the_row_as_it_stands(self):
        for machine, figures, row in drawn(443, 150, 8):
            self.assertEqual(fewest_to(machine, figures, row, machine_model.row_of(machine, row, figures)), (0, []))

    def test_many_things(self):
        # Last use first: all but those that stand at the back as they should use it, in any wished order.
        chance = random.Random(444)
        for many in (6, 12):
            figures = [((0, number), (0, (number,))) for number in range(many)]
            for _ in range(20):
                things = [x for x, _ in figures]
                chance.shuffle(things)
                kept = 0
                while kept < many and all(things[at] > things[at + 1] for at in range(many - 1 - kept, many - 1)):
                    kept += 1
                self.check(USE, figures, 0, things, many - kept)

    def test_prices(self):
        seen = set()
        for machine, figures, row in drawn(445, 150):
            for things in itertools.permutations([x for x, _ in figures]):
                table = asked(prices_to, machine, figures, row, list(things))
                self.assertEqual(table, prices_by_all(machine, figures, row, list(things)))
                found = fewest_to(machine, figures, row, list(things))
                if things:
                    self.assertEqual(found and found[0], min([one[3] for one in table[0]], default=None))
                seen.add((len(things), min([len(prices) for prices in table], default=0) == 0))
                self.assertIs(asked(is_price_table, machine, figures, row, list(things), table), True)
        self.assertEqual(seen, {(0, True), (1, False), (2, True), (2, False), (3, True), (3, False)})

    def test_price_tables_otherwise(self):
        many = 0
        for machine, figures, row in drawn(446, 60):
            things = machine_model.row_of(machine, row, figures)[::-1]
            table = prices_to(machine, figures, row, things)
            others = [table + [[]], table[:-1], table[::-1], [prices[::-1] for prices in table], [list(prices) + prices[:1] for prices in table],
                      [prices[1:] for prices in table], [[list(one) for one in prices] for prices in table], tuple(table), [tuple(prices) for prices in table]]
            for other in others + list(variants(table)):
                good = repr(other) == repr(table)
                self.assertIs(is_price_table(machine, figures, row, things, other), good, other)
                many += not good
        self.assertGreater(many, 1000)

    def test_tables_of_any_value(self):
        figures = [(A, (1, (3,))), (B, (0, (2,)))]
        table = [[(0, -1, 1, 1)], [(0, -1, 1, 1), (0, 3, 0, 0)]]
        self.assertIs(is_price_table(FRONT_MACHINE, figures, 0, [B, A], table), True)
        for value in any_values():
            self.assertIs(is_price_table(FRONT_MACHINE, figures, 0, [B, A], value), False)
            for other in ([value], [table[0], value], [[value], table[1]], [[(0, -1, 1, value)], table[1]], [[(value, -1, 1, 1)], table[1]]):
                self.assertIs(is_price_table(FRONT_MACHINE, figures, 0, [B, A], other), repr(other) == repr(table))
            self.assertIs(is_price_table(FRONT_MACHINE, [], 0, [], value), type(value) is list and value == [])
        # Truths are never taken for numbers.
        for other in ([[(0, -1, True, 1)], table[1]], [[(False, -1, 1, 1)], table[1]], [table[0], [(0, -1, 1, 1), (0, 3, False, 0)]]):
            self.assertEqual(other, table)
            self.assertIs(is_price_table(FRONT_MACHINE, figures, 0, [B, A], other), False)


if __name__ == "__main__":
    unittest.main()
