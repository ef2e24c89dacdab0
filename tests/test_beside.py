"""[34]: machines of one kind beside one another."""

import itertools
import random
import unittest

from ownmoment.alike import are_alike
from ownmoment.beside import class_orders, classes_of, only_kind, rank_choices, ranks_between, side_by_side
from ownmoment.errors import NoOrder, TooMany, Unlike
from tests import machine_model, model
from tests.machine_books import APART_FULL, ELDER, KINDS, KNOWN, MORE, SORT, labelled, one_row
from tests.samples import FRONT_MACHINE, LEAST_MACHINE, WIDE_MACHINE, lasting
from tests.test_least import ring
from tests.test_machines import LABELLED, ROWS, chance_machine

LATER, EARLIER = "later", "earlier"


def classes(*ways):
    """A machine of one kind with these classes, ranks with gaps."""
    points = [(3 * at + 1, way, 0, 1) for at, way in enumerate(ways)]
    return one_row((0,), points, tuple((((at + 1) % len(ways), (0,)),) for at in range(len(ways))))


def drawn(chance, kinds, deeds=None):
    """A machine of one row with so many kinds, each point of which can be come to."""
    while True:
        machine = chance_machine(chance)
        if len(machine[0]) == kinds and len(machine[1][0][0]) == 1 and deeds in (None, len(machine[2][0])):
            return machine_model.reached(machine)


def ways_of(machine):
    return [way for _, way in sorted({stands[0][:2] for stands, _, _ in machine[1]})]


def all_choices(one, other):
    """The ranks, by looking at all tuples of integers."""
    mine, theirs = ways_of(one), ways_of(other)
    many = len(mine) + len(theirs)
    found = []
    for first in itertools.combinations(range(many), len(mine)):
        for second in itertools.combinations(range(many), len(theirs)):
            both = {*first, *second}
            if both == set(range(len(both))) and all(mine[first.index(rank)] == theirs[second.index(rank)] for rank in set(first) & set(second)):
                found.append((first, second))
    return found


class PartsTest(unittest.TestCase):

    def test_classes(self):
        self.assertEqual(classes_of(FRONT_MACHINE), [(0, LATER), (1, EARLIER)])
        self.assertEqual(classes_of(SORT), [(0, EARLIER), (1, EARLIER), (2, EARLIER)])
        self.assertEqual(classes_of(classes(LATER, LATER, EARLIER)), [(1, LATER), (4, LATER), (7, EARLIER)])
        self.assertEqual(classes_of(one_row((0,), [(5, LATER, 0, 1), (2, EARLIER, 0, 1), (5, LATER, 0, 1)], (((1, (0,)),), ((2, (0,)),), (None,)))),
                         [(2, EARLIER), (5, LATER)])
        found = classes_of(SORT)
        found.clear()
        self.assertEqual(len(classes_of(SORT)), 3)

    def test_only_kind(self):
        self.assertEqual(only_kind(KINDS, 0), one_row((0,), [(0, LATER, 0, 1)], (((0, (-1,)),),)))
        self.assertEqual(only_kind(KINDS, 1), one_row((0,), [(1, EARLIER, 0, 1)], (((0, (-1,)),),)))
        self.assertEqual(only_kind(SORT, 1), ((1,), SORT[1], SORT[2]))
        self.assertEqual(only_kind(LABELLED, 1), ((0,), ((((0, LATER, 0),), 1, ()),), (((0, (-1,)),),)))
        # In their order, though they are met in another one.
        machine = one_row((3, 2), [(0, LATER, 0, 1), (1, LATER, 0, 1), (2, LATER, 0, 1), (3, LATER, 0, 1), (4, LATER, 0, 1)],
                          (((1, (0,)), None), ((0, (0,)), None), ((4, (-1,)), None), ((1, (0,)), (0, (0,))), (None, None)))
        self.assertEqual(only_kind(machine, 0), one_row((2,), [(0, LATER, 0, 1), (1, LATER, 0, 1), (3, LATER, 0, 1)],
                                                        (((1, (0,)), None), ((0, (0,)), None), ((1, (0,)), (0, (0,))))))
        self.assertEqual(only_kind(machine, 1), one_row((0,), [(2, LATER, 0, 1), (4, LATER, 0, 1)], (((1, (-1,)), None), (None, None))))

    def test_only_kind_of_drawn_ones(self):
        chance = random.Random(261)
        for _ in range(80):
            machine = drawn(chance, 2)
            before = lasting(machine)
            for kind in (0, 1):
                found = only_kind(machine, kind)
                self.assertEqual(found, machine_model.reached((machine[0][kind:kind + 1], machine[1], machine[2])))
                self.assertTrue(model.ok_machine(found))
            self.assertEqual(lasting(machine), before)


class SideBySideTest(unittest.TestCase):

    def test_by_hand(self):
        come = one_row((0,), [(7, EARLIER, 0, 1)], (((0, (0,)),),))
        self.assertEqual(side_by_side(FRONT_MACHINE, come, ((2, 5), (5,))), one_row(
            (0, 2), [(5, EARLIER, 0, 1), (2, LATER, 0, 1), (5, EARLIER, 0, 1)], (((1, (-1,)),), ((1, (-1,)),), ((2, (0,)),))))
        self.assertEqual(side_by_side(come, FRONT_MACHINE, ((0,), (3, 9))), one_row(
            (0, 1), [(0, EARLIER, 0, 1), (9, EARLIER, 0, 1), (3, LATER, 0, 1)], (((0, (0,)),), ((2, (-1,)),), ((2, (-1,)),))))
        full = labelled(FRONT_MACHINE, [(0, 0), (0, 1)])
        self.assertEqual(side_by_side(full, full, ((0, 1), (0, 1)))[1], FRONT_MACHINE[1] * 2)

    def test_no_order(self):
        one, other = classes(LATER, EARLIER, LATER), classes(EARLIER, LATER, EARLIER)
        for ranks, pair in ((((0, 1, 2), (0, 1, 2)), (0, 0)), (((0, 1, 2), (1, 2, 3)), None), (((0, 1, 5), (0, 1, 5)), (0, 0)),
                            (((0, 1, 2), (3, 4, 5)), None), (((2, 3, 4), (0, 1, 4)), (2, 2)), (((0, 4, 7), (1, 4, 7)), (1, 1)), (((0, 4, 7), (0, 3, 7)), (0, 0)),
                            (((1, 4, 7), (0, 1, 4)), None), (((0, 1, 2), (2, 3, 4)), (2, 0))):
            if pair is None:
                machine = side_by_side(one, other, ranks)
                self.assertTrue(model.ok_machine(machine))
                continue
            with self.assertRaises(NoOrder) as caught:
                side_by_side(one, other, ranks)
            self.assertEqual(caught.exception.pair, pair)

    def test_each_kind_is_led_as_before(self):
        chance = random.Random(262)
        for _ in range(60):
            one = drawn(chance, 1)
            other = drawn(chance, 1, len(one[2][0]))
            for ranks in chance.sample(rank_choices(one, other), 1):
                before = lasting((one, other, ranks))
                machine = side_by_side(one, other, ranks)
                self.assertEqual(lasting((one, other, ranks)), before)
                self.assertTrue(model.ok_machine(machine))
                self.assertTrue(all(label == () for _, _, label in machine[1]))
                self.assertTrue(are_alike(only_kind(machine, 0), one) and are_alike(only_kind(machine, 1), other))
                self.assertEqual((machine[0], len(machine[1])), ((one[0][0], len(one[1]) + other[0][0]), len(one[1]) + len(other[1])))
                self.assertEqual(machine[2][:len(one[1])], one[2])


class RankChoicesTest(unittest.TestCase):

    def test_by_hand(self):
        self.assertEqual(rank_choices(classes(LATER), classes(LATER)), [((0,), (0,)), ((0,), (1,)), ((1,), (0,))])
        self.assertEqual(rank_choices(classes(LATER), classes(EARLIER)), [((0,), (1,)), ((1,), (0,))])
        self.assertEqual(rank_choices(LEAST_MACHINE, LEAST_MACHINE), [((0,), (0,)), ((0,), (1,)), ((1,), (0,))])

    def test_as_the_definition_says(self):
        chance = random.Random(263)
        for _ in range(60):
            one, other = [classes(*(chance.choice((LATER, EARLIER)) for _ in range(chance.randrange(1, 4)))) for _ in range(2)]
            found = rank_choices(one, other)
            self.assertIs(type(found), list)
            self.assertEqual(found, all_choices(one, other))
            self.assertEqual(class_orders(one, other), len(found))
            found.clear()
            self.assertEqual(len(rank_choices(one, other)), class_orders(one, other))

    def test_too_many(self):
        # 43 classes beside one of another way are put in 44 ways, and beside two in 990 and 1,035 ways.
        for many, others, count in ((999, 1, 1000), (1000, 1, 1001), (43, 2, 990), (44, 2, 1035)):
            one, other = classes(*[LATER] * many), classes(*[EARLIER] * others)
            self.assertEqual(class_orders(one, other), count)
            self.assertEqual(class_orders(other, one), count)
            if count <= 1000:
                found = rank_choices(one, other)
                self.assertEqual((len(found), found), (count, sorted(found)))
                continue
            for mine, theirs in ((one, other), (other, one)):
                with self.assertRaises(TooMany) as caught:
                    rank_choices(mine, theirs)
                self.assertEqual(caught.exception.most, 1000)

    def test_many_orders(self):
        self.assertEqual(class_orders(classes(LATER, LATER), classes(LATER, LATER)), 13)
        self.assertEqual(class_orders(ring(3), ring(3)), 63)
        self.assertEqual(class_orders(classes(*[LATER] * 20), classes(*[EARLIER] * 20)), 137846528820)
        # The paths of a king from one corner of a board to the other one.
        self.assertEqual(class_orders(ring(10), ring(10)), 8097453)
        self.assertGreater(class_orders(ring(60), ring(60)), 10 ** 39)


class RanksBetweenTest(unittest.TestCase):

    def test_by_hand(self):
        self.assertEqual(ranks_between(KINDS), ((0,), (1,)))
        self.assertEqual(ranks_between(MORE), ((0, 1), (0, 1)))
        self.assertEqual(ranks_between(SORT), ((0, 1, 2), (0, 1, 2)))
        machine = one_row((1, 0), [(9, LATER, 0, 1), (3, LATER, 0, 1), (5, EARLIER, 0, 1)], ((None,), ((2, (0,)),), (None,)))
        self.assertEqual(ranks_between(machine), ((0, 1), (2,)))
        self.assertEqual(ranks_between(LABELLED), ((0,), (0,)))

    def test_of_those_put_together(self):
        chance = random.Random(264)
        for _ in range(40):
            one = drawn(chance, 1)
            other = drawn(chance, 1, len(one[2][0]))
            for ranks in rank_choices(one, other):
                machine = side_by_side(one, other, ranks)
                self.assertEqual(ranks_between(machine), ranks)
                self.assertEqual(ranks_between(machine_model.stretched(chance, machine)), ranks)

    def test_put_together_again(self):
        chance = random.Random(265)
        for machine in [KINDS, MORE, SORT, LABELLED] + [drawn(chance, 2) for _ in range(60)]:
            before = lasting(machine)
            ranks = ranks_between(machine)
            one, other = only_kind(machine, 0), only_kind(machine, 1)
            self.assertIn(ranks, rank_choices(one, other))
            self.assertIs(are_alike(side_by_side(one, other, ranks), machine), True)
            self.assertEqual(lasting(machine), before)


class ErrorsTest(unittest.TestCase):

    def refused(self, call, *args):
        with self.assertRaises(Unlike):
            call(*args)

    def test_two_rows(self):
        for machine in (ROWS, APART_FULL, WIDE_MACHINE):
            self.refused(classes_of, machine)
            self.refused(only_kind, machine, 0)
            self.refused(ranks_between, machine)
            for one, other in ((machine, machine), (FRONT_MACHINE, machine), (machine, FRONT_MACHINE)):
                self.refused(rank_choices, one, other)
                self.refused(class_orders, one, other)
                self.refused(side_by_side, one, other, ((0, 1), (0, 1)))

    def test_kinds_and_deeds(self):
        for one, other in ((KINDS, FRONT_MACHINE), (FRONT_MACHINE, KINDS), (KINDS, KINDS), (FRONT_MACHINE, LEAST_MACHINE), (ELDER, FRONT_MACHINE)):
            self.refused(rank_choices, one, other)
            self.refused(class_orders, one, other)
            # Ahead of NoOrder.
            self.refused(side_by_side, one, other, ((0, 1), (1, 2)))
        # Other numbers of deeds, with more than 1,000 choices.
        self.refused(rank_choices, ring(60), FRONT_MACHINE)
        for machine in (FRONT_MACHINE, LEAST_MACHINE, ELDER):
            self.refused(ranks_between, machine)

    def test_whatever_was_asked_between(self):
        first = [rank_choices(machine, machine) for _, machine, _ in KNOWN if len(machine[0]) == 1]
        class_orders(ring(5), ring(5))
        self.assertEqual([rank_choices(machine, machine) for _, machine, _ in KNOWN if len(machine[0]) == 1], first)


if __name__ == "__main__":
    unittest.main()
