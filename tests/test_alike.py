"""[32]: two machines side by side."""

import itertools
import random
import unittest

from ownmoment.alike import are_alike, is_parting, joint_points, parting_run
from ownmoment.errors import TooMany, Unlike
from ownmoment.least import least_machine
from ownmoment.machines import row_machine
from tests import machine_model, model
from tests.machine_books import APART_FULL, ELDER, KINDS, MORE, SORT, labelled, one_row
from tests.samples import FRONT_MACHINE, LEAST_MACHINE, MACHINES, WIDE_MACHINE, any_values, lasting, variants
from tests.test_least import BEHIND, ring
from tests.test_machines import LABELLED, ROWS, chance_machine, chance_run, chance_tuples, changed

LATER, EARLIER = "later", "earlier"
ALL = MACHINES + (LABELLED, ROWS, BEHIND, APART_FULL, ELDER, KINDS, MORE, SORT)
A, B, C, K = (0, 0), (0, 1), (0, 2), (1, 0)


def wheels(mine, theirs):
    """Two machines, of which one goes round by deed 1, the other one by deed 2: mine * theirs joint points."""
    def wheel(many, deed):
        moves = []
        for at in range(many):
            there, here = ((at + 1) % many, (0,)), (at, (0,))
            moves.append((there, here) if deed == 1 else (here, there))
        return one_row((0,), [(at, EARLIER, 0, 1) for at in range(many)], tuple(moves))
    return wheel(mine, 1), wheel(theirs, 2)


def joints(one, other):
    """All joint points, by the definition."""
    found = set()
    todo = [((0, one[0][kind], (0,)), (0, other[0][kind], (0,))) for kind in range(len(one[0]))]
    seen = set()
    while todo:
        (now, point, mine), (_, rival, theirs) = todo.pop()
        moments = sorted({*mine, *theirs})
        joint = (point, rival, tuple(moments.index(k) for k in mine), tuple(moments.index(k) for k in theirs))
        if joint in seen:
            continue
        seen.add(joint)
        found.add(joint)
        for entry, answer in zip(one[2][point], other[2][rival]):
            if entry and answer:
                todo.append(((now + 1, entry[0], tuple(now + 1 if k < 0 else mine[k] for k in entry[1])),
                             (now + 1, answer[0], tuple(now + 1 if k < 0 else theirs[k] for k in answer[1]))))
    return sorted(found)


def small(chance):
    while True:
        machine = chance_machine(chance)
        if len(machine[1]) <= 3 and 1 <= len(machine[2][0]) <= 2 and max(live for _, live, _ in machine[1]) <= 2:
            return machine


def like(chance, machine):
    """A machine with as many kinds, deeds and rows."""
    while True:
        other = small(chance)
        if [len(part) for part in (other[0], other[2][0], other[1][0][0])] == [len(part) for part in (machine[0], machine[2][0], machine[1][0][0])]:
            return other


class JointPointsTest(unittest.TestCase):

    def test_by_hand(self):
        self.assertEqual(joint_points(FRONT_MACHINE, FRONT_MACHINE), [(0, 0, (0,), (0,)), (1, 1, (0,), (0,))])
        self.assertEqual(joint_points(LEAST_MACHINE, LEAST_MACHINE), [(0, 0, (0,), (0,))])
        come = one_row((0,), [(0, EARLIER, 0, 1)], (((0, (0,)),),))
        use = one_row((0,), [(0, LATER, 0, 1)], (((0, (-1,)),),))
        self.assertEqual(joint_points(come, use), [(0, 0, (0,), (0,)), (0, 0, (0,), (1,))])
        self.assertEqual(joint_points(use, come), [(0, 0, (0,), (0,)), (0, 0, (1,), (0,))])
        both = one_row((1,), [(0, EARLIER, 1, 2), (0, EARLIER, 0, 1)], (((0, (0, -1)),), ((0, (0, -1)),)))
        self.assertEqual(joint_points(both, use), [(0, 0, (0, 1), (1,)), (1, 0, (0,), (0,))])
        self.assertEqual(joint_points(come, both), [(0, 0, (0,), (0, 1)), (0, 1, (0,), (0,))])

    def test_as_the_definition_says(self):
        chance = random.Random(241)
        for machine in ALL:
            before = lasting(machine)
            self.assertEqual(joint_points(machine, machine), joints(machine, machine))
            self.assertEqual(lasting(machine), before)
        for _ in range(150):
            one = chance_machine(chance)
            other = machine_model.otherwise(chance, machine_model.altered(chance, one))
            found = joint_points(one, other)
            self.assertIs(type(found), list)
            self.assertEqual(found, joints(one, other))
            self.assertEqual(joint_points(other, one), sorted((q, p, theirs, mine) for p, q, mine, theirs in found))

    def test_how_many(self):
        one, other = wheels(75, 80)
        self.assertEqual(len(joint_points(one, other)), 6000)
        self.assertIs(are_alike(one, other), False)
        run = parting_run(one, other)
        self.assertEqual(len(run), 3)
        self.assertTrue(machine_model.is_parting(one, other, run))
        # All in one class, in both.
        flat = [changed(machine, (1,), ((((0, EARLIER, 0),), 1, ()),) * len(machine[1])) for machine in (one, other)]
        self.assertIs(are_alike(*flat), True)
        self.assertIsNone(parting_run(*flat))
        for one, other in (wheels(17, 353), wheels(1, 6001)):
            for call in (joint_points, are_alike, parting_run):
                with self.assertRaises(TooMany) as caught:
                    call(one, other)
                self.assertEqual(caught.exception.most, 6000)
            # They are told from one another by a list all the same.
            self.assertIs(is_parting(one, other, [(0, A)]), False)
        self.assertEqual(len(joint_points(*wheels(1, 6000))), 6000)

    def test_a_long_way(self):
        # They part at the last point of a long ring alone; alike to it but for this.
        many = 1500
        points = [(0, EARLIER, 0, 1)] * many
        moves = tuple((((at + 1) % many, (0,)),) for at in range(many))
        one, other = one_row((0,), points, moves), one_row((0,), points[1:] + [(1, LATER, 0, 1)], moves)
        run = parting_run(one, other)
        self.assertEqual(len(run), many + 1)
        self.assertIs(is_parting(one, other, run), True)
        other = one_row((0,), points, moves[:-1] + ((None,),))
        self.assertEqual(parting_run(one, other), [(0, A)] + [(1, A)] * many)


class AlikeTest(unittest.TestCase):

    def check(self, one, other, chance):
        """Both ways about, by all runs of two things of each kind."""
        things = [(kind, number) for kind in range(len(one[0])) for number in (0, 1)]
        parted = machine_model.shortest_run((one, other), things, lambda run: machine_model.is_parting(one, other, run))
        for mine, theirs in ((one, other), (other, one)):
            before = lasting((mine, theirs))
            self.assertIs(are_alike(mine, theirs), parted is None, (mine, theirs))
            run = parting_run(mine, theirs)
            self.assertEqual(lasting((mine, theirs)), before)
            if parted is None:
                self.assertIsNone(run)
                continue
            self.assertIs(type(run), list)
            self.assertEqual(len(run), len(parted), (mine, theirs, run, parted))
            self.assertTrue(machine_model.is_parting(mine, theirs, run), (mine, theirs, run))
            self.assertIs(is_parting(mine, theirs, run), True)
            self.assertLessEqual(len({x for _, x in run}), 2)
        return parted

    def test_with_itself_and_written_otherwise(self):
        chance = random.Random(242)
        for machine in ALL + tuple(chance_machine(chance) for _ in range(60)):
            self.assertIs(are_alike(machine, machine), True)
            self.assertIsNone(parting_run(machine, machine))
            for other in (machine_model.otherwise(chance, machine), least_machine(machine)):
                self.assertIs(are_alike(machine, other), True)
                self.assertIs(are_alike(other, machine), True)
                self.assertIsNone(parting_run(other, machine))

    def test_one_place_otherwise(self):
        chance = random.Random(243)
        lengths = []
        for _ in range(220):
            machine = small(chance)
            other = machine_model.altered(chance, machine)
            if chance.random() < .3:
                other = machine_model.otherwise(chance, other)
            parted = self.check(machine, other, chance)
            lengths.append(parted and len(parted))
        self.assertGreater(lengths.count(None), 20)
        self.assertTrue({2, 3, 4} <= set(lengths))

    def test_free_ones(self):
        chance = random.Random(244)
        for _ in range(80):
            machine = small(chance)
            self.check(machine, like(chance, machine), chance)

    def test_deep_ones(self):
        chance = random.Random(245)
        for machine in (ELDER, BEHIND, APART_FULL, SORT, KINDS):
            for _ in range(6):
                self.check(machine, machine_model.altered(chance, machine), chance)

    def test_the_moment_alone(self):
        # Both put a thing into one class by an elder moment; by the one it is that of coming, by the other one that of asking.
        other = changed(ELDER, (2, 1, 1, 1), (0,))
        parted = self.check(ELDER, other, random.Random(246))
        self.assertEqual(len(parted), 6)

    def test_three_things_part_no_sooner(self):
        chance = random.Random(247)
        for _ in range(12):
            machine = small(chance)
            other = machine_model.altered(chance, machine)
            run = parting_run(machine, other)
            if run is None or len(machine[0]) > 1 or len(run) > 4:
                continue
            for length in range(1, len(run)):
                for done in itertools.product(itertools.product(range(-1, len(machine[2][0]) + 1), (A, B, C)), repeat=length):
                    self.assertFalse(machine_model.is_parting(machine, other, list(done)))

    def test_labels_change_nothing(self):
        full = labelled(SORT, [(0, 7), (0, 3), (0, 5)])
        one = (SORT[0][:1], SORT[1], SORT[2])
        self.assertIs(are_alike((one[0], full[1], full[2]), one), True)
        self.assertIsNone(parting_run((one[0], full[1], full[2]), one))
        self.assertIs(are_alike(row_machine(LABELLED, 0), LABELLED), True)


class IsPartingTest(unittest.TestCase):

    def test_by_hand(self):
        other = changed(FRONT_MACHINE, (1, 1, 0, 0, 1), EARLIER)
        run = [(0, A), (0, B), (1, B), (1, A)]
        self.assertIs(is_parting(FRONT_MACHINE, other, run), True)
        # Any list of tuples that is let and behind which the rows differ, whatever came before.
        self.assertIs(is_parting(FRONT_MACHINE, other, run + [(0, C)]), True)
        self.assertIs(is_parting(FRONT_MACHINE, other, [(0, C), (-1, C)] + run + [(0, C), (1, C)]), True)
        self.assertIs(is_parting(FRONT_MACHINE, other, run + [(-1, A)]), False)
        self.assertIs(is_parting(FRONT_MACHINE, other, run[:3]), False)
        self.assertIs(is_parting(FRONT_MACHINE, other, run + [(0, A)]), False)
        self.assertIs(is_parting(FRONT_MACHINE, other, []), False)
        # What just one lets.
        other = changed(FRONT_MACHINE, (2, 1, 0), None)
        for one, rival in ((FRONT_MACHINE, other), (other, FRONT_MACHINE)):
            self.assertIs(is_parting(one, rival, [(0, A), (1, A), (1, A)]), True)
            self.assertIs(is_parting(one, rival, [(0, A), (1, A), (1, A), (1, A)]), False)
            self.assertIs(is_parting(one, rival, [(0, A), (1, A), (0, B), (0, C), (1, A)]), True)
            self.assertIs(is_parting(one, rival, [(0, A), (1, A)]), False)
            self.assertIs(is_parting(one, rival, [(0, A), (2, A)]), False)

    def test_any_values(self):
        other = changed(FRONT_MACHINE, (1, 1, 0, 0, 1), EARLIER)
        run = [(0, A), (0, B), (1, B), (1, A)]
        for value in any_values():
            self.assertIs(is_parting(FRONT_MACHINE, other, value), False)
        for value in variants(run):
            before = lasting(value)
            good = (type(value) is list and all(type(done) is tuple and len(done) == 2 and model.ok_int(done[0], -1, 1) and model.ok_thing(done[1])
                                                and done[1][0] == 0 for done in value) and machine_model.is_parting(FRONT_MACHINE, other, value))
            self.assertIs(is_parting(FRONT_MACHINE, other, value), good, value)
            self.assertEqual(lasting(value), before)

    def test_drawn_lists(self):
        chance = random.Random(248)
        many = [0, 0]
        for _ in range(150):
            machine = chance_machine(chance)
            other = machine_model.altered(chance, machine)
            for tuples in (chance_run(chance, machine, 9), chance_run(chance, machine, 4) + chance_tuples(chance, machine, 1)):
                good = machine_model.is_parting(machine, other, tuples)
                many[good] += 1
                self.assertIs(is_parting(machine, other, tuples), good)
        self.assertGreater(min(many), 40)


class ErrorsTest(unittest.TestCase):

    def test_unlike(self):
        cases = [(FRONT_MACHINE, MORE), (FRONT_MACHINE, LEAST_MACHINE), (APART_FULL, row_machine(APART_FULL, 0)), (WIDE_MACHINE, row_machine(WIDE_MACHINE, 1)),
                 (SORT, ELDER), (ring(3), changed(FRONT_MACHINE, (0,), (0, 0)))]
        # Ahead of all else, too many joint points as well.
        one, other = wheels(80, 80)
        cases.append((one, ((0, 0),) + other[1:]))
        for one, other in cases:
            for call in (joint_points, are_alike, parting_run, lambda one, other: is_parting(one, other, None),
                         lambda one, other: is_parting(one, other, [(0, A)])):
                with self.assertRaises(Unlike):
                    call(one, other)
                with self.assertRaises(Unlike):
                    call(other, one)

    def test_new_each_time(self):
        other = changed(FRONT_MACHINE, (1, 1, 0, 0, 1), EARLIER)
        first = joint_points(FRONT_MACHINE, other), parting_run(FRONT_MACHINE, other)
        joint_points(FRONT_MACHINE, other).clear()
        parting_run(FRONT_MACHINE, other).clear()
        are_alike(ELDER, ELDER)
        self.assertEqual((joint_points(FRONT_MACHINE, other), parting_run(FRONT_MACHINE, other)), first)


if __name__ == "__main__":
    unittest.main()
