"""[35]: handing things over."""

import itertools
import random
import unittest

from ownmoment.errors import Unlike
from ownmoment.over import find_map, hand_over, is_map, jump_of, maps_many
from tests import machine_model, model
from tests.machine_books import APART_FULL, ELDER, KINDS, MORE, SORT, one_row
from tests.samples import FRONT_MACHINE, LEAST_MACHINE, MACHINES, WIDE_MACHINE, any_values, lasting, variants
from tests.test_beside import drawn
from tests.test_least import BEHIND
from tests.test_machines import LABELLED, ROWS, chance_machine, chance_run

LATER, EARLIER = "later", "earlier"
A, B, C = (0, 0), (0, 1), (0, 2)
ONE_ROW = (FRONT_MACHINE, LEAST_MACHINE, LABELLED, BEHIND, ELDER, KINDS, MORE, SORT)


def ok_map(one, other, value):
    """By the definition."""
    if type(value) is not tuple or len(value) != len(one[1]):
        return False
    for (_, live, _), entry in zip(one[1], value):
        if type(entry) is not tuple or len(entry) != 2 or not model.ok_int(entry[0], 0, len(other[1]) - 1):
            return False
        if type(entry[1]) is not tuple or len(entry[1]) != other[1][entry[0]][1]:
            return False
        if not all(model.ok_int(k, 0, live - 1) for k in entry[1]) or list(entry[1]) != sorted(set(entry[1])):
            return False
    return True


def all_maps(one, other):
    options = []
    for _, live, _ in one[1]:
        options.append([(point, take) for point, (_, many, _) in enumerate(other[1]) for take in itertools.combinations(range(live), many)])
    return itertools.product(*options)


def weavings(mine, theirs):
    return sorted({tuple(order) for order in itertools.permutations([0] * mine + [1] * theirs)})


def jump(one, other, table):
    """By the definition, least first."""
    for row in range(len(one[1][0][0])):
        for point, rival in itertools.product(range(len(one[1])), repeat=2):
            for weaving in weavings(one[1][point][1], one[1][rival][1]):
                figures = [(place, tuple(now for now, whose in enumerate(weaving) if whose == which)) for which, place in enumerate((point, rival))]
                handed = [(table[place][0], tuple(times[k] for k in table[place][1])) for place, times in figures]
                if model.is_ahead(one, row, *figures) != model.is_ahead(other, row, *handed):
                    return (row, point, rival, weaving)
    return None


def drawn_map(chance, one, other):
    table = []
    for _, live, _ in one[1]:
        options = [(point, take) for point, (_, many, _) in enumerate(other[1]) for take in itertools.combinations(range(live), many)]
        if not options:
            return None
        table.append(chance.choice(options))
    return tuple(table)


class IsMapTest(unittest.TestCase):

    def test_by_hand(self):
        for table, good in ((((0, (0,)), (1, (0,))), True), (((1, (0,)), (1, (0,))), True), (((2, (0,)), (1, (0,))), False), (((0, ()), (1, (0,))), False),
                            (((0, (0,)),), False), (((0, (0,)), (1, (0,)), (0, (0,))), False), (((0, (1,)), (1, (0,))), False), ((), False),
                            ([(0, (0,)), (1, (0,))], False), (((False, (0,)), (1, (0,))), False), (((0, (False,)), (1, (0,))), False), (((0, (0, 0)), (1, (0,))), False)):
            self.assertIs(is_map(FRONT_MACHINE, FRONT_MACHINE, table), good, table)
        for take, good in (((0, 1), True), ((1, 2), True), ((0, 2), True), ((2, 1), False), ((1, 1), False), ((0, 1, 2), False), ((0,), False), ((0, 3), False), ((-1, 0), False)):
            self.assertIs(is_map(BEHIND, ELDER, ((0, (0,)), (1, (0, 1)), (2, (0,)), (1, take))), good, take)
        # The same point of the second may have more live moments than there are.
        self.assertIs(is_map(BEHIND, ELDER, ((1, (0, 1)), (1, (0, 1)), (2, (0,)), (1, (0, 1)))), False)
        # Rows, kinds and deeds do not matter.
        self.assertIs(is_map(FRONT_MACHINE, WIDE_MACHINE, ((0, (0,)), (3, (0,)))), True)
        self.assertIs(is_map(ROWS, LEAST_MACHINE, ((0, (1,)), (0, (0,)))), True)

    def test_any_values(self):
        for value in any_values():
            self.assertIs(is_map(FRONT_MACHINE, FRONT_MACHINE, value), False)
            self.assertIs(is_map(FRONT_MACHINE, FRONT_MACHINE, ((0, (0,)), value)), False)
            self.assertIs(is_map(FRONT_MACHINE, FRONT_MACHINE, ((0, (0,)), (value, (0,)))), ok_map(FRONT_MACHINE, FRONT_MACHINE, ((0, (0,)), (value, (0,)))))
            self.assertIs(is_map(FRONT_MACHINE, FRONT_MACHINE, ((0, (0,)), (0, value))), ok_map(FRONT_MACHINE, FRONT_MACHINE, ((0, (0,)), (0, value))))

    def test_one_entry_otherwise(self):
        chance = random.Random(271)
        many = [0, 0]
        for _ in range(60):
            one, other = chance_machine(chance), chance_machine(chance)
            table = drawn_map(chance, one, other)
            if table is None:
                continue
            self.assertIs(is_map(one, other, table), True)
            before = lasting((one, other, table))
            for value in itertools.islice(variants(table), 0, None, 3):
                good = ok_map(one, other, value)
                many[good] += 1
                self.assertIs(is_map(one, other, value), good)
            self.assertEqual(lasting((one, other, table)), before)
        self.assertGreater(min(many), 30)


class HandOverTest(unittest.TestCase):

    def test_by_hand(self):
        table = ((0, (0,)), (1, (0, 1)), (2, (0,)), (1, (0, 2)))
        figures = [(B, (3, (2, 5, 9))), (A, (1, (0, 3))), (C, (0, (7,)))]
        before = lasting((table, figures))
        self.assertEqual(hand_over(table, figures), [(B, (1, (2, 9))), (A, (1, (0, 3))), (C, (0, (7,)))])
        self.assertEqual(hand_over(table, []), [])
        hand_over(table, figures).clear()
        self.assertEqual(lasting((table, figures)), before)
        self.assertEqual(hand_over(((1, (0,)), (0, (0,))), [(A, (0, (4,))), (B, (1, (5,)))]), [(A, (1, (4,))), (B, (0, (5,)))])


class JumpTest(unittest.TestCase):

    def test_by_hand(self):
        same = ((0, (0,)), (1, (0,)))
        self.assertIsNone(jump_of(FRONT_MACHINE, FRONT_MACHINE, same))
        # All into the class of those that have done the deed: those that have not change places.
        self.assertEqual(jump_of(FRONT_MACHINE, FRONT_MACHINE, ((1, (0,)), (1, (0,)))), (0, 0, 0, (0, 1)))
        self.assertEqual(jump_of(FRONT_MACHINE, FRONT_MACHINE, ((0, (0,)), (0, (0,)))), (0, 0, 1, (0, 1)))
        self.assertEqual(jump_of(FRONT_MACHINE, FRONT_MACHINE, ((1, (0,)), (0, (0,)))), (0, 0, 0, (0, 1)))
        # By the other one of two moments: the point with itself, its moments around those of the other thing.
        two = one_row((1,), [(0, EARLIER, 0, 2), (0, EARLIER, 0, 1)], ((None,), ((0, (0, -1)),)))
        come = one_row((0,), [(0, EARLIER, 0, 1)], ((None,),))
        self.assertIsNone(jump_of(two, come, ((0, (0,)), (0, (0,)))))
        self.assertEqual(jump_of(two, come, ((0, (1,)), (0, (0,)))), (0, 0, 0, (0, 1, 1, 0)))
        self.assertIsNone(jump_of(come, two, ((1, (0,)),)))

    def test_two_rows(self):
        same = tuple((point, tuple(range(live))) for point, (_, live, _) in enumerate(APART_FULL[1]))
        self.assertIsNone(jump_of(APART_FULL, APART_FULL, same))
        # Into the point for the other order of the two moments: the first row stays, as the same moment counts there.
        table = same[:3] + ((4, (0, 1)),) + same[4:]
        self.assertEqual(jump_of(APART_FULL, APART_FULL, table), jump(APART_FULL, APART_FULL, table))
        self.assertEqual(jump_of(APART_FULL, APART_FULL, table)[0], 0)
        flipped = (APART_FULL[0], tuple(((one, (two[0], LATER if two[1] == EARLIER else EARLIER, two[2])), live, label)
                                        for (one, two), live, label in APART_FULL[1]), APART_FULL[2])
        self.assertEqual(jump_of(APART_FULL, flipped, same), (1, 0, 0, (0, 1)))

    def test_as_the_definition_says(self):
        chance = random.Random(272)
        none = 0
        for _ in range(250):
            one = machine_model.reached(chance_machine(chance))
            other = machine_model.stretched(chance, one) if chance.random() < .5 else machine_model.reached(chance_machine(chance))
            table = drawn_map(chance, one, other)
            if chance.random() < .3 and len(one[1]) == len(other[1]):
                table = tuple((point, tuple(range(live))) for point, (_, live, _) in enumerate(one[1]))
            if table is None or not ok_map(one, other, table) or len(one[1][0][0]) != len(other[1][0][0]):
                continue
            before = lasting((one, other, table))
            found = jump(one, other, table)
            none += found is None
            self.assertEqual(jump_of(one, other, table), found)
            self.assertEqual(lasting((one, other, table)), before)
        self.assertGreater(none, 20)

    def test_rows_stay_just_without_a_jump(self):
        chance = random.Random(273)
        for _ in range(60):
            one = machine_model.reached(chance_machine(chance))
            other = machine_model.stretched(chance, one)
            table = drawn_map(chance, one, other)
            if table is None or jump(one, other, table) is not None:
                table = tuple((point, tuple(range(live))) for point, (_, live, _) in enumerate(one[1]))
            self.assertIsNone(jump_of(one, other, table))
            figures = model.figures_behind(one, chance_run(chance, one, 20))
            for row in range(len(one[1][0][0])):
                self.assertEqual(machine_model.row_of(one, row, figures), machine_model.row_of(other, row, hand_over(table, figures)))


class MapsTest(unittest.TestCase):

    def check(self, one, other):
        maps = [table for table in all_maps(one, other) if jump(one, other, table) is None]
        before = lasting((one, other))
        self.assertEqual(maps_many(one, other), len(maps), (one, other))
        found = find_map(one, other)
        self.assertEqual(lasting((one, other)), before)
        if not maps:
            self.assertIsNone(found)
        else:
            self.assertIn(found, maps)
            self.assertIs(type(found), tuple)
        return len(maps)

    def test_by_hand(self):
        self.assertEqual(maps_many(FRONT_MACHINE, FRONT_MACHINE), 1)
        self.assertEqual(find_map(FRONT_MACHINE, FRONT_MACHINE), ((0, (0,)), (1, (0,))))
        self.assertEqual((maps_many(FRONT_MACHINE, LEAST_MACHINE), find_map(FRONT_MACHINE, LEAST_MACHINE)), (0, None))
        self.assertEqual((maps_many(LEAST_MACHINE, FRONT_MACHINE), find_map(LEAST_MACHINE, FRONT_MACHINE)), (1, ((0, (0,)),)))
        # Into one of three classes of the same way, in each one point or two.
        row = one_row((0,), [(0, LATER, 0, 1)], ((None,),))
        many = one_row((0,), [(at, way, 0, 1) for at, way in ((0, LATER), (1, EARLIER), (2, LATER), (2, LATER), (3, LATER))], ((None,),) * 5)
        self.assertEqual(maps_many(row, many), 4)
        # In the same order.
        two = one_row((0,), [(5, LATER, 0, 1), (1, LATER, 0, 1)], ((None,),) * 2)
        self.assertEqual(maps_many(two, many), 2 * 1 + 1 + 2)
        self.assertIsNone(jump_of(two, many, find_map(two, many)))

    def test_as_the_definition_says(self):
        chance = random.Random(274)
        counts = []
        while len(counts) < 150:
            one, other = drawn(chance, 1), drawn(chance, 1)
            if len(one[1]) <= 3 and len(other[1]) <= 4:
                counts.append(self.check(one, other))
                counts.append(self.check(one, machine_model.otherwise(chance, one)) if len(one[1]) < 3 else 1)
        self.assertGreater(counts.count(0), 20)
        self.assertGreater(len([count for count in counts if count > 1]), 20)

    def test_to_itself(self):
        chance = random.Random(275)
        for machine in ONE_ROW + tuple(drawn(chance, 1 + at % 2) for at in range(60)):
            self.assertGreater(maps_many(machine, machine), 0)
            table = find_map(machine, machine)
            self.assertTrue(ok_map(machine, machine, table))
            self.assertIs(is_map(machine, machine, table), True)
            self.assertIsNone(jump_of(machine, machine, table))

    def test_however_many(self):
        # Each of twelve points into each of twelve, of one class.
        machine = one_row((0,), [(0, LATER, 0, 1)] * 12, tuple((((at + 1) % 12, (0,)),) for at in range(12)))
        self.assertEqual(maps_many(machine, machine), 12 ** 12)
        self.assertIsNone(jump_of(machine, machine, find_map(machine, machine)))
        # Ten classes into thirty, each of two points: choices of classes, and of a point for each point.
        def wide(many):
            return one_row((0,), [(at // 2, LATER, 0, 1) for at in range(2 * many)], tuple((((at + 1) % (2 * many), (0,)),) for at in range(2 * many)))
        self.assertEqual(maps_many(wide(10), wide(30)), 30045015 * 4 ** 10)
        self.assertIsNone(find_map(wide(30), wide(10)))
        self.assertEqual(maps_many(wide(30), wide(10)), 0)
        # A third moment can be the first of two or the second one, where the second of three counts.
        three = one_row((1,), [(0, LATER, 1, 3), (0, LATER, 0, 1), (0, LATER, 0, 2)], ((None,), ((2, (0, -1)),), ((0, (0, 1, -1)),)))
        self.check(three, three)

    def test_new_each_time(self):
        first = find_map(SORT, SORT)
        find_map(KINDS, SORT)
        self.assertEqual(find_map(SORT, SORT), first)


class ErrorsTest(unittest.TestCase):

    def test_unlike(self):
        for one, other in ((FRONT_MACHINE, WIDE_MACHINE), (WIDE_MACHINE, FRONT_MACHINE), (ROWS, LEAST_MACHINE)):
            table = ((0, (0,)),) * len(one[1])
            for call in (lambda: jump_of(one, other, table), lambda: maps_many(one, other), lambda: find_map(one, other)):
                with self.assertRaises(Unlike):
                    call()
        for one, other in ((ROWS, ROWS), (APART_FULL, WIDE_MACHINE)):
            for call in (maps_many, find_map):
                with self.assertRaises(Unlike):
                    call(one, other)
        self.assertEqual(len(MACHINES), 3)


if __name__ == "__main__":
    unittest.main()
