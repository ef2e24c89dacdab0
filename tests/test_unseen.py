"""[62]: what was done between known figures and a row that is seen."""

import itertools
import random
import unittest

from ownmoment.unseen import fewest_movers, points_now, sure_movers
from tests import machine_model, model
from tests.machine_books import APART_FULL, COME, ELDER, KINDS, SORT, USE
from tests.samples import FRONT_MACHINE, asked
from tests.test_leading import all_done, drawn, follows, small, states_from, ways_of
from tests.test_machines import chance_run

LATER, EARLIER = "later", "earlier"
A, B, C, D = (0, 0), (0, 1), (0, 2), (0, 3)


def states_of_one(machine, figure):
    """All (point, times) that a thing can come to, -1 for moments behind those of the figure, and whether by no deed."""
    found = {(figure, True)}
    todo = [figure]
    while todo:
        point, times = todo.pop()
        for entry in machine[2][point]:
            if entry is not None:
                state = (entry[0], tuple(-1 if k < 0 else times[k] for k in entry[1]))
                if (state, False) not in found:
                    found.add((state, False))
                    todo.append(state)
    return found


def by_all_stances(machine, figures, row, things):
    """The three answers, by going through all stances of all things, each beside each; the run of the second is left out."""
    ways = ways_of(machine, row)
    options = []
    for x in things:
        stances = {}
        for (point, times), still in states_of_one(machine, dict(figures)[x]):
            rank, _, at = machine[1][point][0][row]
            stances.setdefault((rank, times[at]), []).append((point, still))
        options.append(stances)
    fewest, sure, points = None, set(things), {x: set() for x in things}
    todo = [()]
    for stances in options:
        todo = [chosen + (one,) for chosen in todo for one in stances
                if all(follows(ways[one[0]], one, other) for other in chosen)]
    for chosen in todo:
        moved = {x for x, one, stances in zip(things, chosen, options) if not any(still for _, still in stances[one])}
        fewest = min(len(moved), len(things) if fewest is None else fewest)
        sure &= moved
        for x, one, stances in zip(things, chosen, options):
            points[x] |= {point for point, _ in stances[one]}
    if not todo:
        return None, None, None
    return sorted(sure), fewest, [(x, tuple(sorted(points[x]))) for x in sorted(points)]


class UnseenTest(unittest.TestCase):

    def check(self, machine, figures, row, things, sure, fewest, points):
        self.assertEqual(asked(sure_movers, machine, figures, row, things), sure, (machine, figures, row, things))
        self.assertEqual(asked(points_now, machine, figures, row, things), points, (machine, figures, row, things))
        found = asked(fewest_movers, machine, figures, row, things)
        if fewest is None:
            self.assertIsNone(found)
            return
        number, run = found
        self.assertTrue(type(found) is tuple and type(run) is list)
        self.assertEqual((number, len({x for _, x in run})), (fewest, fewest), (machine, figures, row, things, run))
        self.assertTrue(all(deed > 0 for deed, _ in run))
        behind = all_done(machine, figures, run)
        self.assertIsNotNone(behind)
        self.assertEqual(machine_model.row_of(machine, row, behind), things)
        self.assertTrue(set(sure) <= {x for _, x in run})

    def test_of_the_document(self):
        figures = [(A, (1, (3,))), (B, (0, (2,)))]
        self.assertEqual(sure_movers(FRONT_MACHINE, figures, 0, [B, A]), [B])

    def test_by_hand(self):
        figures = [(A, (1, (3,))), (B, (0, (2,)))]
        self.check(FRONT_MACHINE, figures, 0, [B, A], [B], 1, [(A, (1,)), (B, (1,))])
        self.check(FRONT_MACHINE, figures, 0, [A, B], [], 0, [(A, (1,)), (B, (0, 1))])
        # One of two has to move, but none of them surely: A to the front, or both of the others.
        figures = [(A, (0, (1,))), (B, (0, (2,))), (C, (0, (3,)))]
        self.check(USE, figures, 0, [A, C, B], [A], 1, [(A, (0,)), (B, (0,)), (C, (0,))])
        self.check(USE, figures, 0, [A, B, C], [A, B], 2, [(A, (0,)), (B, (0,)), (C, (0,))])
        self.check(COME, figures, 0, [A, C, B], None, None, None)
        self.check(COME, figures, 0, [A, B, C], [], 0, [(A, (0,)), (B, (0,)), (C, (0,))])
        # B may have asked, or not.
        figures = [(A, (0, (1,))), (B, (0, (2,)))]
        self.check(ELDER, figures, 0, [A, B], [], 0, [(A, (0, 1, 2)), (B, (0, 1, 2))])
        self.check(ELDER, figures, 0, [B, A], [B], 1, [(A, (0, 1, 2)), (B, (2,))])
        self.check(ELDER, [(A, (0, (1,))), (B, (2, (2,)))], 0, [B, A], [], 0, [(A, (0, 1, 2)), (B, (2,))])
        self.check(ELDER, [(A, (0, (1,))), (B, (2, (2,)))], 0, [A, B], None, None, None)

    def test_deeds_of_which_the_row_knows_nothing(self):
        # B stands as it did behind any number of deeds; the fewest do none, and its points can be all.
        figures = [(A, (0, (4,))), (B, (0, (2,)))]
        self.check(APART_FULL, figures, 0, [B, A], [], 0, [(A, (0, 1, 2, 3, 4)), (B, (0, 1, 2, 3, 4))])
        self.check(APART_FULL, figures, 0, [A, B], [A], 1, [(A, (1, 3, 4)), (B, (0, 1, 2, 3, 4))])

    def test_nothing_there(self):
        self.check(FRONT_MACHINE, [], 0, [], [], 0, [])
        self.assertEqual(fewest_movers(FRONT_MACHINE, [], 0, []), (0, []))

    def test_beside_a_search(self):
        seen = set()
        for machine, figures, row in drawn(461, 150):
            movers = [x for x, _ in figures]
            told = {}
            for _, moved, behind in states_from(machine, figures, movers):
                things = tuple(machine_model.row_of(machine, row, behind))
                sure, fewest, points = told.setdefault(things, (set(movers), [len(movers)], {x: set() for x in movers}))
                sure &= set(moved)
                fewest[0] = min(fewest[0], len(moved))
                for x, (point, _) in behind:
                    points[x].add(point)
            for things in itertools.permutations(movers):
                if things not in told:
                    self.check(machine, figures, row, list(things), None, None, None)
                    seen.add(None)
                    continue
                sure, fewest, points = told[things]
                points = [(x, tuple(sorted(points[x]))) for x in movers]
                self.check(machine, figures, row, list(things), sorted(sure), fewest[0], points)
                self.assertEqual(by_all_stances(machine, figures, row, list(things)), (sorted(sure), fewest[0], points))
                seen.add((len(sure), fewest[0]))
        self.assertTrue({None, (0, 0), (0, 1), (0, 2), (1, 1), (1, 2), (2, 2)} <= seen, seen)

    def test_fewest_without_a_sure_one(self):
        # A behind B by a deed of either one: the one goes to the front, or the other one to the back.
        machine = ((0,), tuple((((rank, way, 0),), 1, ()) for rank, way in ((1, EARLIER), (0, LATER), (2, LATER))),
                   (((1, (-1,)), (2, (-1,))), (None, None), (None, None)))
        figures = [(A, (0, (1,))), (B, (0, (2,)))]
        self.check(machine, figures, 0, [B, A], [], 1, [(A, (0, 1, 2)), (B, (0, 1, 2))])
        self.assertEqual(by_all_stances(machine, figures, 0, [B, A])[:2], ([], 1))

    def test_six_to_twelve_things(self):
        chance = random.Random(462)
        seen = set()
        for many in range(6, 13):
            for machine in (FRONT_MACHINE, USE, COME, ELDER, KINDS, SORT, APART_FULL):
                run = [(0, (number % len(machine[0]), number)) for number in range(many)]
                chance.shuffle(run)
                for one in chance_run(chance, machine, 0) or [(chance.randrange(1, len(machine[2][0]) + 1), chance.choice(run)[1]) for _ in range(2 * many)]:
                    if type(model.figures_behind(machine, run + [one])) is list:
                        run.append(one)
                figures = model.figures_behind(machine, run)
                row = len(machine[1][0][0]) - 1
                for _ in range(3):
                    # A row that can come of it, with a few deeds; or one with two neighbours exchanged.
                    behind = figures
                    for _ in range(chance.randrange(5)):
                        behind = all_done(machine, behind, [(chance.randrange(1, len(machine[2][0]) + 1), chance.choice(figures)[0])]) or behind
                    things = machine_model.row_of(machine, row, behind)
                    if chance.random() < .4:
                        at = chance.randrange(many - 1)
                        things[at:at + 2] = things[at:at + 2][::-1]
                    wanted = by_all_stances(machine, figures, row, things)
                    self.check(machine, figures, row, things, *wanted)
                    seen.add(wanted[1] if wanted[1] is None else min(wanted[1], 4))
        self.assertEqual(seen, {None, 0, 1, 2, 3, 4})

    def test_all_movers_have_the_sure_ones(self):
        """Of runs that are drawn; what they lead to, the answers have to bear."""
        chance = random.Random(463)
        for _ in range(60):
            machine = small(chance)
            figures = model.figures_behind(machine, chance_run(chance, machine, 14))
            if not figures:
                continue
            row = chance.randrange(len(machine[1][0][0]))
            for _ in range(5):
                run = []
                for _ in range(chance.randrange(7)):
                    one = (chance.randrange(1, len(machine[2][0]) + 1), chance.choice(figures)[0])
                    run += [one] if all_done(machine, figures, run + [one]) else []
                behind = all_done(machine, figures, run)
                things = machine_model.row_of(machine, row, behind)
                self.assertTrue(set(sure_movers(machine, figures, row, things)) <= {x for _, x in run})
                self.assertLessEqual(fewest_movers(machine, figures, row, things)[0], len({x for _, x in run}))
                points = dict(points_now(machine, figures, row, things))
                self.assertTrue(all(point in points[x] for x, (point, _) in behind))


if __name__ == "__main__":
    unittest.main()
