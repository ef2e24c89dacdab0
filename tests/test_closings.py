"""[67], [7]: the table that tells whether a tie can go round a ring."""

import itertools
import random
import unittest

from ownmoment.closings import closing_table, does_close, is_closing_table
from ownmoment.errors import TooMany
from tests import model, tie_model
from tests.machine_books import labelled, one_row
from tests.samples import WIDE_MACHINE, any_values, asked, lasting, variants
from tests.test_machines import LABELLED
from tests.test_ties import APART_LABELLED, ELDER_LABELLED
from tests.tie_model import chance_tie

LATER, EARLIER = "later", "earlier"
ALL = (WIDE_MACHINE, LABELLED, APART_LABELLED, ELDER_LABELLED)


def great_machine(one, other, pairs):
    """Points with the label (0, 0), points with the label (0, 1), and twice as many as pairs, one behind the other."""
    labels = [(0, 0)] * one + [(0, 1)] * other + [(0, 2), (0, 3)] * pairs
    many = len(labels)
    machine = one_row((0,), [(min(at, one + other), LATER, 0, 1) for at in range(many)],
                      tuple(((at + 1, (-1,)) if at + 1 < many else None,) for at in range(many)))
    return labelled(machine, labels)


GREAT_TIE = (((0, 0), (0, 1), (0,)), ((0, 2), (0, 3), (1,)))


def drawn(seed, many):
    """Tuples (machine, tie)."""
    chance = random.Random(seed)
    for at in range(many):
        machine = ALL[at] if at < len(ALL) else tie_model.labelled(chance)
        yield machine, chance_tie(chance, machine, sides=chance.choice(((0, 1, 2), (1, 2), (1,), (0, 1))))


class TableTest(unittest.TestCase):

    def test_by_hand(self):
        # Who has asked, to each one that is there and has not: no thing is both.
        tie = (((0, 1), (0, 0), (2,)),)
        self.assertEqual(closing_table(ELDER_LABELLED, tie), [(1, 0, (1, 1), (0,))])
        # Who came first is tied to who came later, and on: always in one direction.
        tie = (((0, 0), (0, 0), (1,)),)
        self.assertEqual(closing_table(ELDER_LABELLED, tie), [(0, 0, (0,), (1,))])
        self.assertIs(does_close(ELDER_LABELLED, tie, (0, 0, (0,), (1,))), False)
        # Whoever it is: then they can stand in a ring.
        tie = (((0, 0), (0, 0), (0,)),)
        self.assertEqual(closing_table(ELDER_LABELLED, tie), [(0, 0, (0,), (1,)), (0, 0, (1,), (0,)), (0, 0, (1,), (1,))])
        self.assertEqual([does_close(ELDER_LABELLED, tie, entry) for entry in closing_table(ELDER_LABELLED, tie)], [True, True, True])
        for tie in ((), (((0, 9), (0, 0), (0,)),)):
            self.assertEqual(closing_table(ELDER_LABELLED, tie), [])
            self.assertIs(is_closing_table(ELDER_LABELLED, tie, []), True)

    def test_as_the_definition_says(self):
        seen = set()
        for machine, tie in drawn(481, 220):
            entries = tie_model.all_entries(machine, tie)
            table = asked(closing_table, machine, tie)
            self.assertEqual(table, sorted(entries))
            for entry in table:
                points, links = entries[entry]
                self.assertEqual(tie_model.entry_of(machine, points, links), entry)
                seen.add(min(len(points), 5))
            for entry in table[:40]:
                found = asked(does_close, machine, tie, entry)
                self.assertIs(found, tie_model.closes(machine, tie, entry))
                seen.add(found)
            self.assertIs(asked(is_closing_table, machine, tie, table), True)
        self.assertEqual(seen, {2, 3, 4, 5, True, False})

    def test_a_ring_exactly_if_some_entry_closes(self):
        seen = set()
        for machine, tie in drawn(482, 260):
            if sum(live for _, live, _ in machine[1]) > 5 or len(machine[1]) > 3:
                continue
            closes = any(does_close(machine, tie, entry) for entry in closing_table(machine, tie))
            sizes = [many for many in (2, 3) if tie_model.has_ring(machine, tie, many)]
            if sizes:
                self.assertTrue(closes)
                seen.add(sizes[0])
            elif max(live for _, live, _ in machine[1]) == 1:
                # None of these machines has rings of five things and more alone.
                self.assertEqual(closes, tie_model.has_ring(machine, tie, 4))
                seen.add(4 if closes else None)
        self.assertTrue({2, 3, None} <= seen, seen)

    def test_too_many(self):
        machine = great_machine(50, 60, 0)
        self.assertTrue(model.ok_machine(machine))
        table = closing_table(machine, GREAT_TIE)
        self.assertEqual(len(table), 6000)
        self.assertEqual(table, sorted((a, b, forth, back) for a in range(50) for b in range(50, 110) for forth, back in (((0,), (1,)), ((1,), (0,)))))
        self.assertIs(is_closing_table(machine, GREAT_TIE, table), True)
        self.assertIs(is_closing_table(machine, GREAT_TIE, table[:-1]), False)
        for pairs in (1, 2):
            machine = great_machine(50, 60, pairs)
            with self.assertRaises(TooMany) as caught:
                closing_table(machine, GREAT_TIE)
            self.assertEqual(caught.exception.most, 6000)
        # That it is one can be told all the same.
        machine = great_machine(50, 60, 1)
        table = sorted(table + [(110, 111, (1,), (0,))])
        self.assertIs(is_closing_table(machine, GREAT_TIE, table), True)
        self.assertIs(is_closing_table(machine, GREAT_TIE, table[:-1]), False)

    def test_too_many_by_longer_chains(self):
        # Each point is tied to the next one alone, but the chains go on from each to all behind it.
        many = 80
        labels = [(0, mark) for mark in range(many)]
        machine = labelled(one_row((0,), [(at, LATER, 0, 1) for at in range(many)], tuple(((at + 1, (-1,)) if at + 1 < many else None,) for at in range(many))), labels)
        # Of twelve tuples, as many as there may be.
        tie = tuple(((0, mark), (0, mark + 1), (0,)) for mark in range(12))
        self.assertEqual(closing_table(machine, tie), sorted(tie_model.all_entries(machine, tie)))
        machine = labelled(machine, [(0, 0)] * many)
        tie = (((0, 0), (0, 0), (1,)),)
        with self.assertRaises(TooMany):
            closing_table(machine, tie)


class IsTableTest(unittest.TestCase):

    def good(self, machine, tie, value):
        """By the definition."""
        points = machine[1]

        def ok_entry(entry):
            if type(entry) is not tuple or len(entry) != 4 or not all(model.ok_int(point, 0, len(points) - 1) for point in entry[:2]):
                return False
            mine, theirs = points[entry[0]][1], points[entry[1]][1]
            return all(type(some) is tuple and len(some) == many and all(model.ok_int(k, 0, most) for k in some)
                       for some, many, most in ((entry[2], mine, theirs), (entry[3], theirs, mine)))
        if type(value) is not list or not all(ok_entry(entry) for entry in value) or value != sorted(set(value)):
            return False
        for p, q in itertools.product(range(len(points)), repeat=2):
            for weaving in tie_model.tying(machine, tie, p, q):
                if tie_model.entry_of(machine, (p, q), [weaving]) not in value:
                    return False
        return all(further in value for entry in value for further in self.further(machine, tie, entry))

    def further(self, machine, tie, entry):
        first, now, forth, back = entry
        mine, middle = machine[1][first][1], machine[1][now][1]
        for q in range(len(machine[1])):
            for weaving in tie_model.tying(machine, tie, now, q):
                end = machine[1][q][1]
                ahead = [first_b for first_b in (tie_model.first_behind(weaving, 1, b) for b in range(end))]
                yield (first, q, tuple(end if k == middle else tie_model.first_behind(weaving, 0, k) for k in forth),
                       tuple(mine if k == middle else back[k] for k in ahead))

    def closed(self, machine, tie, entries):
        found = set(entries)
        todo = list(entries)
        while todo:
            for further in self.further(machine, tie, todo.pop()):
                if further not in found:
                    found.add(further)
                    todo.append(further)
        return sorted(found)

    def test_tables_otherwise(self):
        chance = random.Random(483)
        seen = {}
        for machine, tie in drawn(484, 160):
            table = closing_table(machine, tie)
            if len(table) > 60:
                continue
            others = [("out", table[:at] + table[at + 1:]) for at in range(len(table))]
            others += [("twice", sorted(table + [one])) for one in table] + [("order", table[::-1])]
            others += [("value", tuple(table)), ("value", table + [None]), ("value", [list(one) for one in table])]
            for _ in range(6):
                # Any entry by form, and all that comes of it, or not.
                p, q = chance.randrange(len(machine[1])), chance.randrange(len(machine[1]))
                mine, theirs = machine[1][p][1], machine[1][q][1]
                one = (p, q, tuple(chance.randrange(theirs + 1) for _ in range(mine)), tuple(chance.randrange(mine + 1) for _ in range(theirs)))
                others.append(("more", self.closed(machine, tie, table + [one])))
                others.append(("one more", sorted({*table, one})))
            for what, other in others:
                good = self.good(machine, tie, other)
                before = lasting(other)
                self.assertIs(is_closing_table(machine, tie, other), good, (what, other))
                self.assertEqual(lasting(other), before)
                seen[what, good] = seen.get((what, good), 0) + 1
        self.assertTrue(all(seen.get(one, 0) > 20 for one in (("out", False), ("twice", False), ("order", False), ("value", False), ("more", True),
                                                              ("one more", False), ("one more", True))), seen)

    def test_one_place_otherwise(self):
        many = [0, 0]
        for machine, tie in ((ELDER_LABELLED, (((0, 0), (0, 0), (0,)), ((0, 1), (0, 0), (2,)))), (LABELLED, (((0, 7), (1, 0), (1,)), ((1, 0), (0, 7), (1,))))):
            table = closing_table(machine, tie)
            for value in variants(table):
                good = self.good(machine, tie, value)
                many[good] += 1
                self.assertIs(is_closing_table(machine, tie, value), good, value)
        self.assertGreater(min(many), 0)

    def test_any_values(self):
        tie = (((0, 1), (0, 0), (2,)),)
        table = [(1, 0, (1, 1), (0,))]
        self.assertIs(is_closing_table(ELDER_LABELLED, tie, table), True)
        for value in any_values():
            for other in (value, [value], table + [value], [value] + table, [(value, 0, (1, 1), (0,))], [(1, 0, value, (0,))], [(1, 0, (1, value), (0,))]):
                self.assertIs(is_closing_table(ELDER_LABELLED, tie, other), self.good(ELDER_LABELLED, tie, other), other)
        # Nothing comes of a further entry here: so it may be any one by form, and no other one.
        for one in ((0, 0, (1,), (1,)), (0, 2, (0,), (1,)), (2, 1, (2,), (0, 1)), (0, 0, (0,), (0,))):
            self.assertIs(is_closing_table(ELDER_LABELLED, tie, sorted(table + [one])), one[1] != 1)
            if one[1] == 1:
                continue
            for at, value in ((0, -1), (0, 3), (1, -1), (1, 3), (2, (-1,)), (2, (2,)), (3, (-1,)), (3, (2,)), (2, ()), (3, (0, 0))):
                other = (*one[:at], value, *one[at + 1:])
                self.assertIs(is_closing_table(ELDER_LABELLED, tie, sorted(table + [other])), self.good(ELDER_LABELLED, tie, sorted(table + [other])), other)
                self.assertIs(self.good(ELDER_LABELLED, tie, sorted(table + [other])), False)
        for other in ([(True, 0, (1, 1), (0,))], [(1, False, (1, 1), (0,))], [(1, 0, (1, True), (0,))], [(1, 0, (1, 1), (False,))]):
            self.assertEqual(other, table)
            self.assertIs(is_closing_table(ELDER_LABELLED, tie, other), False)


if __name__ == "__main__":
    unittest.main()
