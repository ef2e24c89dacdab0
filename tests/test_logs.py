"""[50], [9]: logs, and what of them makes no difference for what comes."""

import itertools
import random
import unittest

from ownmoment.errors import NoIndex
from ownmoment.logs import are_alike_logs, can_swap, least_log, meeting_moments, shortest_past, spare_tuples
from tests import machine_model, model
from tests.machine_books import APART_FULL, ELDER, KINDS, MORE, SORT
from tests.samples import FRONT_MACHINE, LEAST_MACHINE, WIDE_MACHINE, asked
from tests.test_least import BEHIND, ring
from tests.test_machines import LABELLED, ROWS, chance_machine, chance_run

LATER, EARLIER = "later", "earlier"
A, B, C, K = (0, 0), (0, 1), (0, 2), (1, 0)
ALL = (FRONT_MACHINE, LEAST_MACHINE, WIDE_MACHINE, LABELLED, ROWS, BEHIND, APART_FULL, ELDER, KINDS, MORE, SORT)


def all_meetings(machine):
    """All tuples (p, i, q, j) that can meet: those that do, and from these back, deed by deed."""
    _, points, moves = machine
    places = [(point, k) for point, (_, live, _) in enumerate(points) for k in range(live)]
    met = set()
    for (p, i), (q, j) in itertools.product(places, repeat=2):
        if any(one[2] == i and other[2] == j and one[0] == other[0] for one, other in zip(points[p][0], points[q][0])):
            met.add((p, i, q, j))
    while True:
        more = set()
        for p, i in places:
            for entry in moves[p]:
                if entry is not None and i in entry[1]:
                    more |= {(p, i, q, j) for q, j in places if (entry[0], entry[1].index(i), q, j) in met}
                    more |= {(q, j, p, i) for q, j in places if (q, j, entry[0], entry[1].index(i)) in met}
        if more <= met:
            return met
        met |= more


def are_alike(machine, one, other, met=None):
    """By the definition."""
    met = met or all_meetings(machine)
    mine, theirs = dict(model.figures_behind(machine, one)), dict(model.figures_behind(machine, other))
    if sorted(mine) != sorted(theirs) or any(mine[x][0] != theirs[x][0] for x in mine):
        return False
    for x, y in itertools.permutations(mine, 2):
        for i, j in itertools.product(range(len(mine[x][1])), range(len(mine[y][1]))):
            if (mine[x][0], i, mine[y][0], j) in met and (mine[x][1][i] < mine[y][1][j]) != (theirs[x][1][i] < theirs[y][1][j]):
                return False
    return True


def is_log(machine, log):
    return type(model.figures_behind(machine, log)) is list


def past_to(machine, kind, point):
    """The least of the shortest, by going through all lists of deeds of each length."""
    layer = [((), machine[0][kind])]
    seen = {machine[0][kind]}
    while layer:
        for deeds, at in sorted(layer):
            if at == point:
                return list(deeds)
        layer = [(deeds + (which + 1,), entry[0]) for deeds, at in sorted(layer) for which, entry in enumerate(machine[2][at]) if entry]
        fresh = {at for _, at in layer} - seen
        layer = [one for one in layer if one[1] in fresh]
        seen |= fresh
    return None


class MeetingTest(unittest.TestCase):

    def test_of_the_document(self):
        a, b = (0, 0), (0, 1)
        log = [(0, a), (1, a), (0, b), (1, a), (1, b)]
        self.assertEqual([meeting_moments(FRONT_MACHINE, 1, 1), meeting_moments(FRONT_MACHINE, 0, 1)], [[(0, 0)], []])
        self.assertEqual([can_swap(FRONT_MACHINE, log, 1), can_swap(FRONT_MACHINE, log, 3)], [True, False])
        self.assertEqual([spare_tuples(FRONT_MACHINE, log), len(least_log(FRONT_MACHINE, log))], [[1, 3], 4])

    def test_by_hand(self):
        # At the point 0 of ELDER coming counts, at 1 coming, and later asking; at 2 asking alone.
        self.assertEqual(meeting_moments(ELDER, 0, 0), [(0, 0)])
        self.assertEqual(meeting_moments(ELDER, 0, 1), [(0, 0)])
        self.assertEqual(meeting_moments(ELDER, 1, 1), [(0, 0), (1, 1)])
        self.assertEqual(meeting_moments(ELDER, 1, 2), [(1, 0)])
        self.assertEqual(meeting_moments(ELDER, 2, 1), [(0, 1)])
        self.assertEqual(meeting_moments(ELDER, 0, 2), [])
        # Kinds in classes of their own never meet.
        self.assertEqual([meeting_moments(KINDS, one, other) for one in range(2) for other in range(2)], [[(0, 0)], [], [], [(0, 0)]])

    def test_that_meet_behind_deeds_of_both_alone(self):
        # The moments of coming meet at the last point, to which each thing has three deeds to do; nothing else does.
        points = tuple((((at, EARLIER, 0),), 1, ()) for at in range(4)) + tuple((((4 + at, EARLIER, 0),), 1, ()) for at in range(4))
        moves = tuple(((at + 1, (0,)),) for at in range(3)) + ((None,),) + tuple(((5 + at, (0,)),) for at in range(2)) + (((3, (0,)),), (None,))
        machine = ((0, 4), points, moves)
        self.assertTrue(model.ok_machine(machine))
        self.assertEqual(meeting_moments(machine, 0, 4), [(0, 0)])
        self.assertEqual(meeting_moments(machine, 4, 0), [(0, 0)])
        cut = ((0, 4), points, moves[:6] + (((7, (0,)),), (None,)))
        self.assertEqual(meeting_moments(cut, 0, 4), [])
        self.assertEqual(meeting_moments(cut, 4, 4), [(0, 0)])
        # A moment that is not kept does not meet any more.
        lost = ((0, 4), points, moves[:5] + (((6, (-1,)),),) + moves[6:])
        self.assertEqual(meeting_moments(lost, 0, 4), [])
        self.assertEqual(meeting_moments(lost, 0, 6), [(0, 0)])

    def test_in_the_other_row_alone(self):
        points = ((((0, LATER, 0), (0, LATER, 0)), 1, ()), (((1, LATER, 0), (0, LATER, 0)), 1, ()))
        self.assertEqual(meeting_moments(((0, 1), points, ((), ())), 0, 1), [(0, 0)])
        points = ((((0, LATER, 0), (0, LATER, 0)), 1, ()), (((1, LATER, 0), (2, LATER, 0)), 1, ()))
        self.assertEqual(meeting_moments(((0, 1), points, ((), ())), 0, 1), [])
        # A class of one row is none of the other row.
        points = ((((0, LATER, 0), (1, LATER, 0)), 1, ()), (((1, LATER, 0), (0, LATER, 0)), 1, ()))
        self.assertEqual(meeting_moments(((0, 1), points, ((), ())), 0, 1), [])

    def test_as_the_definition_says(self):
        chance = random.Random(411)
        seen = set()
        for machine in ALL + tuple(chance_machine(chance) for _ in range(150)):
            met = all_meetings(machine)
            for p, q in itertools.product(range(len(machine[1])), repeat=2):
                found = asked(meeting_moments, machine, p, q)
                self.assertEqual(found, sorted((i, j) for one, i, other, j in met if (one, other) == (p, q)))
                seen.add((p == q, min(len(found), 4)))
        self.assertEqual(seen, {(same, many) for same in (True, False) for many in range(5)} - {(True, 0)})


class AlikeTest(unittest.TestCase):

    def check(self, machine, one, other, met):
        for first, second in ((one, other), (other, one)):
            found = asked(are_alike_logs, machine, first, second)
            self.assertIs(found, are_alike(machine, one, other, met), (machine, one, other))
        return found

    def test_by_hand(self):
        log = [(0, A), (1, A), (0, B), (1, B)]
        # Who came first does not count any more, who did deed 1 last does.
        self.assertIs(are_alike_logs(FRONT_MACHINE, log, [(0, B), (0, A), (1, A), (1, B)]), True)
        self.assertIs(are_alike_logs(FRONT_MACHINE, log, [(0, A), (0, B), (1, B), (1, A)]), False)
        self.assertIs(are_alike_logs(FRONT_MACHINE, log, log + [(0, C), (-1, C)]), True)
        self.assertIs(are_alike_logs(FRONT_MACHINE, log, log + [(0, C)]), False)
        self.assertIs(are_alike_logs(FRONT_MACHINE, log, log[:-1]), False)
        self.assertIs(are_alike_logs(FRONT_MACHINE, [], [(0, A), (-1, A)]), True)
        self.assertIs(are_alike_logs(FRONT_MACHINE, [(0, A)], [(0, B)]), False)
        self.assertIs(are_alike_logs(FRONT_MACHINE, [(0, A), (0, B)], [(0, B), (0, A)]), False)
        # Other things alone, at the same points.
        self.assertIs(are_alike_logs(FRONT_MACHINE, [(0, A), (0, B)], [(0, A), (0, C)]), False)
        # What is live but can meet nothing: that A asked later than B came.
        self.assertIs(are_alike_logs(ELDER, [(0, A), (1, A), (0, B)], [(0, A), (0, B), (1, A)]), True)
        self.assertIs(are_alike_logs(ELDER, [(0, A), (0, B), (1, A), (1, B)], [(0, A), (0, B), (1, B), (1, A)]), False)

    def test_logs_changed(self):
        chance = random.Random(412)
        seen = {}
        for machine in ALL + tuple(chance_machine(chance) for _ in range(120)):
            met = all_meetings(machine)
            for _ in range(3):
                log = chance_run(chance, machine, 14)
                self.assertTrue(self.check(machine, log, list(log), met))
                changes = [("swapped", log[:at] + [log[at + 1], log[at]] + log[at + 2:]) for at in range(len(log) - 1)]
                changes += [("out", log[:at] + log[at + 1:]) for at in range(len(log))]
                for one in chance_run(chance, machine, 5):
                    at = chance.randrange(len(log) + 1)
                    changes.append(("in", log[:at] + [one] + log[at:]))
                for what, other in changes:
                    if is_log(machine, other):
                        found = self.check(machine, log, other, met)
                        seen[what, found] = seen.get((what, found), 0) + 1
        self.assertTrue(all(seen[what, found] > 30 for what in ("swapped", "out", "in") for found in (True, False)), seen)

    def test_what_comes_behind_alike_logs(self):
        """The same is let, and the rows are the same; behind others with the same things and points they can part."""
        chance = random.Random(413)
        many = [0, 0]
        for machine in ALL + tuple(chance_machine(chance) for _ in range(60)):
            log = chance_run(chance, machine, 10)
            at = chance.randrange(max(len(log) - 1, 1))
            other = log[:at] + log[at:at + 2][::-1] + log[at + 2:]
            if not is_log(machine, other) or other == log:
                continue
            alike = are_alike_logs(machine, log, other)
            many[alike] += 1
            things = sorted({x for _, x in log})
            parted = False
            for _ in range(200):
                run = [one for one in [(chance.choice([*range(1, len(machine[2][0]) + 1), -1, 0]), chance.choice(things)) for _ in range(6)]]
                behind = [model.figures_behind(machine, some + run) for some in (log, other)]
                if int in map(type, behind):
                    self.assertEqual(type(behind[0]), type(behind[1])) if alike else None
                    continue
                rows = [[machine_model.row_of(machine, row, figures) for row in range(len(machine[1][0][0]))] for figures in behind]
                if alike:
                    self.assertEqual(rows[0], rows[1])
                parted = parted or rows[0] != rows[1]
            self.assertFalse(alike and parted)
        self.assertGreater(min(many), 5)


class SwapTest(unittest.TestCase):

    def test_each_index(self):
        chance = random.Random(414)
        seen = set()
        for machine in ALL + tuple(chance_machine(chance) for _ in range(120)):
            met = all_meetings(machine)
            log = chance_run(chance, machine, 16)
            for index in range(len(log) - 1):
                first, second = log[index:index + 2]
                wanted = first[1] != second[1] and are_alike(machine, log[:index + 2], log[:index] + [second, first], met)
                self.assertIs(asked(can_swap, machine, log, index), wanted)
                seen.add((first[1] != second[1], wanted))
        self.assertEqual(seen, {(True, True), (True, False), (False, False)})

    def test_both_live_and_can_meet(self):
        """The other way to say it: it can be done unless both moments are live behind them, and can meet."""
        chance = random.Random(415)
        for machine in ALL + tuple(chance_machine(chance) for _ in range(80)):
            met = all_meetings(machine)
            log = chance_run(chance, machine, 16)
            for index in range(len(log) - 1):
                x, y = log[index][1], log[index + 1][1]
                there = dict(model.figures_behind(machine, log[:index + 2]))
                is_barred = False
                if x in there and y in there and index in there[x][1] and index + 1 in there[y][1]:
                    is_barred = (there[x][0], there[x][1].index(index), there[y][0], there[y][1].index(index + 1)) in met
                self.assertIs(can_swap(machine, log, index), x != y and not is_barred)

    def test_what_comes_later_does_not_count(self):
        # A does deed 1 once more: up to the two tuples their order counts all the same.
        log = [(0, A), (0, B), (1, A), (1, B), (1, A)]
        self.assertIs(can_swap(FRONT_MACHINE, log, 2), False)
        self.assertIs(can_swap(FRONT_MACHINE, log, 0), False)
        self.assertIs(can_swap(FRONT_MACHINE, [(0, A), (0, B), (-1, A), (1, B)], 2), True)

    def test_no_index(self):
        log = [(0, A), (0, B), (1, A)]
        for some in (log, log[:2], log[:1], []):
            for index in (-1, -2, -3, len(some) - 1, len(some), len(some) + 1, 10 ** 39, -10 ** 39):
                if 0 <= index < len(some) - 1:
                    continue
                with self.assertRaises(NoIndex) as caught:
                    can_swap(FRONT_MACHINE, some, index)
                self.assertEqual(caught.exception.index, index)
        with self.assertRaises(NoIndex):
            can_swap(FRONT_MACHINE, log, 2)


class PastTest(unittest.TestCase):

    def test_by_hand(self):
        self.assertEqual([shortest_past(FRONT_MACHINE, 0, point) for point in (0, 1)], [[], [1]])
        self.assertEqual([shortest_past(ELDER, 0, point) for point in (0, 1, 2)], [[], [1], [1, 2]])
        self.assertEqual([shortest_past(KINDS, kind, point) for kind in (0, 1) for point in (0, 1)], [[], None, None, []])
        # Of the two shortest ways the least.
        machine = ((0,), tuple((((0, LATER, 0),), 1, ()) for _ in range(4)),
                   (((2, (0,)), (1, (0,)), None), ((3, (0,)), None, None), (None, (3, (0,)), (3, (0,))), (None, None, None)))
        self.assertEqual(shortest_past(machine, 0, 3), [1, 2])
        self.assertEqual(shortest_past(ring(30), 0, 29), [1] * 29)

    def test_as_the_definition_says(self):
        chance = random.Random(416)
        seen = set()
        for machine in ALL + tuple(chance_machine(chance) for _ in range(150)):
            for kind, point in itertools.product(range(len(machine[0])), range(len(machine[1]))):
                found = asked(shortest_past, machine, kind, point)
                self.assertEqual(found, past_to(machine, kind, point))
                seen.add(None if found is None else min(len(found), 3))
        self.assertEqual(seen, {None, 0, 1, 2, 3})


class LeastTest(unittest.TestCase):

    def check(self, machine, log, met):
        found = asked(least_log, machine, log)
        self.assertIs(type(found), list)
        self.assertTrue(is_log(machine, found))
        self.assertTrue(are_alike(machine, log, found, met))
        self.assertTrue(are_alike_logs(machine, found, log))
        there = model.figures_behind(machine, log)
        self.assertEqual(len(found), sum(1 + len(past_to(machine, x[0], point)) for x, (point, _) in there))
        self.assertEqual(len(least_log(machine, found)), len(found))
        return found

    def test_by_hand(self):
        self.assertEqual(least_log(FRONT_MACHINE, []), [])
        self.assertEqual(least_log(FRONT_MACHINE, [(0, A), (1, A), (-1, A)]), [])
        self.assertEqual(least_log(FRONT_MACHINE, [(0, A), (1, A), (-1, A), (0, A)]), [(0, A)])
        found = least_log(FRONT_MACHINE, [(0, A), (1, A), (0, B), (1, A), (1, B), (1, A)])
        self.assertEqual([one for one in found if one[1] == A], [(0, A), (1, A)])
        self.assertEqual(found[-1], (1, A))

    def test_drawn(self):
        chance = random.Random(417)
        many = 0
        for machine in ALL + tuple(chance_machine(chance) for _ in range(150)):
            met = all_meetings(machine)
            for length in (0, 4, 12, 40):
                log = chance_run(chance, machine, length)
                many += len(self.check(machine, log, met)) < len(log)
        self.assertGreater(many, 100)

    def test_none_is_shorter(self):
        chance = random.Random(418)
        done = 0
        for machine in (FRONT_MACHINE, ELDER, KINDS, BEHIND, ROWS, SORT) + tuple(chance_machine(chance) for _ in range(25)):
            met = all_meetings(machine)
            things = [(0, 0), (len(machine[0]) - 1, 1)]
            log = []
            for one in [(chance.choice([0, 0, *range(1, len(machine[2][0]) + 1), -1]), chance.choice(things)) for _ in range(25)]:
                if is_log(machine, log + [one]):
                    log.append(one)
            least = len(least_log(machine, log))
            if least > 6 or not log:
                continue
            shortest = machine_model.shortest_run(
                (machine,), things, lambda run: is_log(machine, run) and are_alike(machine, run, log, met)) if model.figures_behind(machine, log) else []
            self.assertEqual(least, len(shortest))
            done += 1
        self.assertGreater(done, 15)


class SpareTest(unittest.TestCase):

    def test_by_hand(self):
        self.assertEqual(spare_tuples(FRONT_MACHINE, []), [])
        self.assertEqual(spare_tuples(FRONT_MACHINE, [(0, A)]), [])
        # Either one of two deeds, not both; goings and comings again need one another.
        self.assertEqual(spare_tuples(FRONT_MACHINE, [(0, A), (1, A), (1, A)]), [1, 2])
        self.assertEqual(spare_tuples(FRONT_MACHINE, [(0, A), (-1, A)]), [])
        self.assertEqual(spare_tuples(FRONT_MACHINE, [(0, A), (1, A), (-1, A), (0, A)]), [1])
        self.assertEqual(spare_tuples(FRONT_MACHINE, [(0, A), (0, B), (1, A), (1, B), (1, A)]), [2])

    def test_as_the_definition_says(self):
        chance = random.Random(419)
        seen = set()
        for machine in ALL + tuple(chance_machine(chance) for _ in range(120)):
            met = all_meetings(machine)
            log = chance_run(chance, machine, 18)
            wanted = []
            for index in range(len(log)):
                rest = log[:index] + log[index + 1:]
                if is_log(machine, rest) and are_alike(machine, rest, log, met):
                    wanted.append(index)
            self.assertEqual(asked(spare_tuples, machine, log), wanted)
            seen.add(min(len(wanted), 4))
        self.assertEqual(seen, {0, 1, 2, 3, 4})


if __name__ == "__main__":
    unittest.main()
