"""[26]: least machines."""

import random
import unittest

from ownmoment.least import alike_points, is_least, least_machine, needed_at
from ownmoment.machines import is_machine
from tests import machine_model, model
from tests.samples import FRONT_MACHINE, LEAST_MACHINE, MACHINES, WIDE_MACHINE, lasting
from tests.test_machines import LABELLED, ROWS, chance_machine, chance_run, changed

LATER, EARLIER = "later", "earlier"

# The points 0 and 1 stand by the moment of coming; from the point 1 deed 2 leads on to where the last deed 1 counts.
BEHIND = (
    (0,),
    ((((0, EARLIER, 0),), 1, ()), (((0, EARLIER, 0),), 2, ()), (((2, LATER, 0),), 1, ()), (((2, LATER, 1),), 3, ())),
    (((1, (0, -1)), None), ((1, (0, -1)), (2, (1,))), (None, None), (None, (0, (2,)))))


def ring(many):
    """Many points one behind the other, the last one leading to the first one."""
    points = tuple((((at, LATER, 0),), 1, ()) for at in range(many))
    return ((0,), points, tuple((((at + 1) % many, (0,)), (0, (-1,))) for at in range(many)))


class NeededTest(unittest.TestCase):

    def test_by_hand(self):
        self.assertEqual([needed_at(FRONT_MACHINE, point) for point in range(2)], [(0,), (0,)])
        # Which moment counts at the point 1 shows behind deed 2 alone; nothing comes to the point 3.
        self.assertEqual([needed_at(BEHIND, point) for point in range(4)], [(0,), (0, 1), (0,), (1, 2)])
        self.assertEqual(needed_at(LEAST_MACHINE, 0), (0,))

    def test_behind_many_deeds(self):
        # A thing keeps the moment 0 through twenty points, and stands by it at the last one alone.
        many = 20
        points = tuple((((0, LATER, 1),), 2, ()) for _ in range(many)) + ((((0, LATER, 0),), 1, ()), (((0, LATER, 0),), 1, ()))
        moves = tuple(((at + 1, (0, -1)),) for at in range(many - 1)) + (((many, (0,)),), (None,), ((0, (0, -1)),))
        machine = ((many + 1,), points, moves)
        self.assertTrue(is_machine(machine))
        self.assertEqual([needed_at(machine, point) for point in range(many + 2)], [(0, 1)] * many + [(0,), (0,)])
        # One deed less at the end, and it is needed nowhere.
        cut = changed(machine, (2, many - 1, 0), None)
        self.assertEqual([needed_at(cut, point) for point in range(many + 2)], [(1,)] * many + [(0,), (0,)])

    def test_as_the_model_has_it(self):
        chance = random.Random(201)
        seen = set()
        for machine in MACHINES + (LABELLED, ROWS, BEHIND) + tuple(chance_machine(chance) for _ in range(120)):
            if len(machine[2][0]) > 3:
                continue
            before = lasting(machine)
            for point in range(len(machine[1])):
                found = needed_at(machine, point)
                self.assertIs(type(found), tuple)
                self.assertEqual(found, machine_model.needed(machine, point, 5))
                seen.add((machine[1][point][1], len(found)))
            self.assertEqual(lasting(machine), before)
        self.assertEqual(seen, {(1, 1), (2, 1), (2, 2), (3, 1), (3, 2), (3, 3)})


class AlikePointsTest(unittest.TestCase):

    def test_by_hand(self):
        self.assertEqual(alike_points(FRONT_MACHINE), [0, 1])
        self.assertEqual(alike_points(LEAST_MACHINE), [0])
        # Two that differ behind two deeds alone, and one that nothing comes to.
        points = tuple((((0, EARLIER, 0),), 1, ()) for _ in range(4)) + ((((1, EARLIER, 0),), 1, ()),)
        machine = ((0,), points, (((1, (0,)),), ((2, (0,)),), ((4, (0,)),), ((2, (0,)),), ((4, (-1,)),)))
        self.assertEqual(alike_points(machine), [0, 1, 2, 1, 4])
        # Whether the moment is kept or new, whether a deed is let, and the label.
        self.assertEqual(alike_points(changed(machine, (2, 3, 0, 1), (-1,))), [0, 1, 2, 3, 4])
        self.assertEqual(alike_points(changed(machine, (2, 3, 0), None)), [0, 1, 2, 3, 4])
        labelled = ((0,), tuple((stands, live, (0, 5)) for stands, live, _ in points), machine[2])
        self.assertEqual(alike_points(labelled), [0, 1, 2, 1, 4])
        self.assertEqual(alike_points(changed(labelled, (1, 1, 2), (0, 4))), [0, 1, 2, 3, 4])

    def test_counted_among_the_needed_ones(self):
        # The point 2 has one live moment more than the point 1, which nobody needs.
        points = ((((1, EARLIER, 0),), 1, ()), (((0, LATER, 0),), 1, ()), (((0, LATER, 1),), 2, ()))
        moves = (((1, (-1,)), (2, (0, -1))), ((1, (0,)), (0, (-1,))), ((1, (1,)), (0, (-1,))))
        machine = ((0,), points, moves)
        self.assertTrue(is_machine(machine))
        self.assertEqual(alike_points(machine), [0, 1, 1])
        self.assertEqual(alike_points(changed(machine, (2, 2, 0, 1), (0,))), [0, 1, 2])
        self.assertEqual(alike_points(changed(machine, (1, 2, 0, 0, 2), 0)), [0, 1, 2])

    def test_as_the_model_has_it(self):
        chance = random.Random(202)
        many = [0, 0]
        machines = [chance_machine(chance) for _ in range(60)] + [machine_model.otherwise(chance, chance_machine(chance)) for _ in range(40)]
        for machine in machines:
            if len(machine[2][0]) > 2:
                continue
            before = lasting(machine)
            found = alike_points(machine)
            self.assertIs(type(found), list)
            for one in range(len(found)):
                for other in range(one):
                    alike = machine_model.are_alike_points(machine, one, other, 7)
                    many[alike] += 1
                    self.assertIs(found[one] == found[other], alike, (machine, one, other))
                self.assertLessEqual(found[one], one)
                self.assertEqual(found[found[one]], found[one])
            self.assertEqual(lasting(machine), before)
        self.assertGreater(min(many), 30)


class LeastTest(unittest.TestCase):

    def test_by_hand(self):
        for machine in (FRONT_MACHINE, LEAST_MACHINE):
            self.assertEqual(least_machine(machine), machine)
            self.assertIs(is_least(machine), True)
        # The points 2 and 3 are not come to, ranks have a gap, and a moment of the point 1 is needed behind deed 2.
        self.assertIs(is_least(BEHIND), False)
        self.assertEqual(least_machine(BEHIND), (
            (0,), ((((0, EARLIER, 0),), 1, ()), (((0, EARLIER, 0),), 2, ()), (((1, LATER, 0),), 1, ())),
            (((1, (0, -1)), None), ((1, (0, -1)), (2, (1,))), (None, None))))

    def test_each_reason(self):
        least = least_machine(BEHIND)
        self.assertIs(is_least(least), True)
        further = tuple((((rank + 1, way, at),), live, label) for ((rank, way, at),), live, label in least[1])
        cases = (
            changed(least, (1, 2, 0, 0, 0), 2), (least[0], further, least[2]),
            (least[0], least[1] + (least[1][2],), least[2] + (least[2][2],)),
            ((0,), (least[1][0], least[1][2], least[1][1]), (((2, (0, -1)), None), (None, None), ((2, (0, -1)), (1, (1,))))),
        )
        for machine in cases:
            self.assertTrue(is_machine(machine))
            self.assertIs(is_least(machine), False)
            self.assertEqual(least_machine(machine), least)

    def test_two_kinds_with_one_point(self):
        machine = ((0, 1), (FRONT_MACHINE[1][0],) * 2, ((None,), (None,)))
        self.assertEqual(least_machine(machine), ((0, 0), ((((0, EARLIER, 0),), 1, ()),), ((None,),)))
        # Kinds by their order, though the second one has the lesser point.
        machine = ((1, 0), FRONT_MACHINE[1], ((None,), (None,)))
        self.assertEqual(least_machine(machine), ((0, 1), FRONT_MACHINE[1][::-1], ((None,), (None,))))
        self.assertEqual(least_machine(LABELLED), LABELLED)

    def test_without_deeds_and_with_sixty_points(self):
        machine = ((2, 1), tuple((((rank, LATER, 0),), 1, ()) for rank in (4, 7, 3)), ((), (), ()))
        self.assertEqual(least_machine(machine), ((0, 1), ((((0, LATER, 0),), 1, ()), (((1, LATER, 0),), 1, ())), ((), ())))
        chance = random.Random(203)
        for many in (60, 30):
            machine = ring(many)
            self.assertEqual(least_machine(machine), machine)
            self.assertIs(is_least(machine), True)
            other = machine_model.otherwise(chance, machine)
            self.assertEqual(least_machine(other), machine)
            self.assertIs(is_least(other), False)
        # All in one class: only that the sixtieth deed is not let keeps the points apart.
        points = tuple((((9, LATER, 0),), 1, ()) for _ in range(60))
        machine = ((0,), points, tuple(((at + 1, (0,)),) for at in range(59)) + ((None,),))
        self.assertEqual(least_machine(machine), ((0,), tuple((((0, LATER, 0),), 1, ()) for _ in range(60)), machine[2]))
        machine = changed(machine, (2, 59), ((17, (0,)),))
        self.assertEqual(least_machine(machine), ((0,), ((((0, LATER, 0),), 1, ()),), (((0, (0,)),),)))

    def test_written_otherwise(self):
        chance = random.Random(204)
        for machine in MACHINES + (LABELLED, ROWS, BEHIND) + tuple(chance_machine(chance) for _ in range(150)):
            least = least_machine(machine)
            self.assertTrue(is_machine(least))
            self.assertEqual(least_machine(least), least)
            self.assertIs(is_least(least), True)
            self.assertIs(is_least(machine), least == machine)
            for _ in range(3):
                other = machine_model.otherwise(chance, machine)
                before = lasting(other)
                self.assertEqual(least_machine(other), least)
                self.assertIs(is_least(other), other == least)
                self.assertEqual(lasting(other), before)

    def test_form_of_least_machines(self):
        chance = random.Random(205)
        for _ in range(150):
            begins, points, moves = machine = least_machine(chance_machine(chance))
            self.assertEqual(machine_model.reached(machine), machine)
            for row in range(len(points[0][0])):
                ranks = {stands[row][0] for stands, _, _ in points}
                self.assertEqual(ranks, set(range(len(ranks))))
            met = [*begins, *(entry[0] for move in moves for entry in move if entry)]
            self.assertEqual(list(dict.fromkeys(met)), list(range(len(points))))
            self.assertEqual([needed_at(machine, point) for point in range(len(points))], [tuple(range(live)) for _, live, _ in points])
            self.assertEqual(alike_points(machine), list(range(len(points))))

    def test_it_lets_and_sorts_the_same(self):
        chance = random.Random(206)
        for machine in MACHINES + (LABELLED, ROWS, BEHIND) + tuple(chance_machine(chance) for _ in range(100)):
            least = least_machine(machine)
            run = chance_run(chance, machine, 20)
            self.assertFalse(machine_model.is_parting(machine, least, run))
            mine, theirs = model.figures_behind(machine, run), model.figures_behind(least, run)
            self.assertEqual([(x, machine[1][point][2]) for x, (point, _) in mine], [(x, least[1][point][2]) for x, (point, _) in theirs])
            for x in [(kind, number) for kind in range(len(machine[0])) for number in range(4)]:
                for deed in range(len(machine[2][0]) + 1):
                    self.assertFalse(machine_model.is_parting(machine, least, run + [(deed, x)]))

    def test_one_place_otherwise(self):
        chance = random.Random(207)
        many = [0, 0]
        for _ in range(700):
            machine = chance_machine(chance)
            other = machine_model.altered(chance, machine)
            if len(machine[1]) > 3 or len(machine[2][0]) > 2 or max(live for _, live, _ in machine[1]) > 2:
                continue
            things = [(kind, number) for kind in range(len(machine[0])) for number in (0, 1)]
            parted = machine_model.shortest_run((machine, other), things, lambda run: machine_model.is_parting(machine, other, run))
            many[parted is None] += 1
            self.assertIs(least_machine(machine) == least_machine(other), parted is None, (machine, other))
        self.assertGreater(min(many), 15)

    def test_labels_count(self):
        other = changed(LABELLED, (1, 0, 2), (0, 8))
        self.assertNotEqual(least_machine(LABELLED), least_machine(other))
        self.assertEqual(least_machine(other)[1][0][2], (0, 8))

    def test_whatever_was_asked_between(self):
        first = least_machine(BEHIND)
        least_machine(WIDE_MACHINE)
        alike_points(BEHIND).clear()
        self.assertEqual(alike_points(BEHIND), [0, 1, 2, 3])
        self.assertEqual(least_machine(BEHIND), first)


if __name__ == "__main__":
    unittest.main()
