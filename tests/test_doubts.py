"""[56]: logs of which it is not known whether some tuples were done."""

import itertools
import random
import unittest

from ownmoment.doubts import ahead_in_doubt, choice_for_row, choices_many, rows_in_doubt
from ownmoment.errors import TooMany
from tests import machine_model, model
from tests.machine_books import APART_FULL, COME, ELDER, KINDS, MORE, SORT, USE
from tests.samples import FRONT_MACHINE, LEAST_MACHINE, WIDE_MACHINE, asked
from tests.test_least import BEHIND
from tests.test_machines import LABELLED, ROWS, chance_machine, chance_run

LATER, EARLIER = "later", "earlier"
A, B, C, D, K = (0, 0), (0, 1), (0, 2), (0, 3), (1, 0)
ALL = (FRONT_MACHINE, LEAST_MACHINE, WIDE_MACHINE, LABELLED, ROWS, BEHIND, APART_FULL, ELDER, KINDS, MORE, SORT)


def stairs(many):
    """Things of kind 0 stand on even steps, those of kind 1 on odd ones; deed d leads d steps of a kind further back."""
    points = tuple((((2 * at + kind, EARLIER, 0),), 1, ()) for kind in range(2) for at in range(many))
    moves = tuple(tuple((many * kind + at + deed, (0,)) if at + deed < many else None for deed in range(1, 6))
                  for kind in range(2) for at in range(many))
    return ((0, many), points, moves)


def stairs_log(many, steps):
    """A thing of kind 1 on each step, and things of kind 0 with these deeds: the log, and the indexes of these deeds."""
    log = []
    for number in range(many - 1):
        log.append((0, (1, number)))
        log += [(deed, (1, number)) for deed in [5] * (number // 5) + ([number % 5] if number % 5 else [])]
    log += [(0, (0, number)) for number in range(len(steps))]
    rest = [(deed, (0, number)) for number, deeds in enumerate(steps) for deed in deeds]
    return log + rest, list(range(len(log), len(log) + len(rest)))


def all_choices(machine, log, doubtful):
    """Tuples (choice, figures behind it), by going through all lists."""
    found = []
    for many in range(len(doubtful) + 1):
        for choice in itertools.combinations(doubtful, many):
            rest = [one for index, one in enumerate(log) if index not in doubtful or index in choice]
            figures = model.figures_behind(machine, rest)
            if type(figures) is list:
                found.append((list(choice), figures))
    return found


def drawn(seed, many, length, most):
    """Tuples (machine, log, doubtful, row)."""
    chance = random.Random(seed)
    for at in range(many):
        machine = ALL[at] if at < len(ALL) else chance_machine(chance)
        log = chance_run(chance, machine, length)
        doubtful = sorted(chance.sample(range(len(log)), min(len(log), chance.randrange(most + 1))))
        yield machine, log, doubtful, chance.randrange(len(machine[1][0][0]))


class DoubtsTest(unittest.TestCase):

    def test_of_the_document(self):
        log = [(0, A), (1, A), (0, B), (1, A), (1, B)]
        self.assertEqual([choice_for_row(FRONT_MACHINE, log, [1, 4], 0, [A, B]), ahead_in_doubt(FRONT_MACHINE, log, [3, 4], 0, A, B)], [[1], (2, 2, 0)])

    def test_by_hand(self):
        # The coming of A, its deed and its going: all three, the going out, both deeds out; none; never the coming alone out.
        log = [(0, A), (1, A), (-1, A)]
        self.assertEqual(choices_many(FRONT_MACHINE, log, [0, 1, 2]), 5)
        self.assertEqual([choices_many(FRONT_MACHINE, log, some) for some in ([], [0], [1], [2], [0, 1], [0, 2], [1, 2])], [1, 1, 2, 2, 2, 2, 4])
        self.assertEqual(rows_in_doubt(FRONT_MACHINE, log, [0, 1, 2], 0), [(), (A,)])
        self.assertEqual(rows_in_doubt(FRONT_MACHINE, log, [0, 1], 0), [()])
        self.assertEqual(choice_for_row(FRONT_MACHINE, log, [0, 1, 2], 0, []), [0, 1, 2])
        self.assertEqual(choice_for_row(FRONT_MACHINE, log, [0, 1, 2], 0, [A]), [0, 1])
        self.assertIsNone(choice_for_row(FRONT_MACHINE, log, [0, 1], 0, [A]))
        # A going that was not done leaves no place for a coming again.
        log = [(0, A), (-1, A), (0, A)]
        self.assertEqual(choices_many(FRONT_MACHINE, log, [1]), 1)
        self.assertEqual(choices_many(FRONT_MACHINE, log, [1, 2]), 3)
        self.assertEqual(choices_many(FRONT_MACHINE, log, [0, 1, 2]), 5)

    def test_nothing(self):
        self.assertEqual(choices_many(FRONT_MACHINE, [], []), 1)
        self.assertEqual(rows_in_doubt(FRONT_MACHINE, [], [], 0), [()])
        self.assertEqual(choice_for_row(FRONT_MACHINE, [], [], 0, []), [])
        self.assertIsNone(choice_for_row(FRONT_MACHINE, [], [], 0, [A]))
        self.assertEqual(ahead_in_doubt(FRONT_MACHINE, [], [], 0, A, B), (0, 0, 1))

    def test_things_that_never_come(self):
        log = [(0, A), (1, A), (0, B)]
        self.assertEqual(ahead_in_doubt(FRONT_MACHINE, log, [1], 0, A, C), (0, 0, 2))
        self.assertEqual(ahead_in_doubt(FRONT_MACHINE, log, [1], 0, K, A), (0, 0, 2))
        self.assertEqual(ahead_in_doubt(FRONT_MACHINE, log, [1], 0, C, D), (0, 0, 2))
        self.assertEqual(ahead_in_doubt(FRONT_MACHINE, log, [1, 2], 0, A, B), (2, 0, 2))
        for things in ([A, C], [A, B, C], [C], [A], [K, A, B], [B, A]):
            self.assertIsNone(choice_for_row(FRONT_MACHINE, log, [1], 0, things))
        self.assertEqual(choice_for_row(FRONT_MACHINE, log, [1], 0, [A, B]), [1])

    def test_beside_all_lists(self):
        seen = set()
        for machine, log, doubtful, row in drawn(431, 260, 14, 7):
            choices = all_choices(machine, log, doubtful)
            rows = {}
            for choice, figures in choices:
                rows.setdefault(tuple(machine_model.row_of(machine, row, figures)), []).append(choice)
            self.assertEqual(asked(choices_many, machine, log, doubtful), len(choices))
            self.assertEqual(asked(rows_in_doubt, machine, log, doubtful, row), sorted(rows))
            for things, fitting in rows.items():
                found = asked(choice_for_row, machine, log, doubtful, row, list(things))
                self.assertIn(found, fitting)
                self.assertEqual(len(found), max(map(len, fitting)))
                seen.add(("several", len(fitting) > 1))
            for things in {things[:at] + things[at + 1:] for things in rows for at in range(len(things))} | {things[::-1] for things in rows}:
                found = asked(choice_for_row, machine, log, doubtful, row, list(things))
                self.assertEqual(found is not None, things in rows)
            for x, y in itertools.permutations(sorted({z for _, z in log})[:3], 2):
                wanted = [0, 0, 0]
                for _, figures in choices:
                    there = dict(figures)
                    both = x in there and y in there
                    wanted[2 if not both else 0 if model.is_ahead(machine, row, there[x], there[y]) else 1] += 1
                found = asked(ahead_in_doubt, machine, log, doubtful, row, x, y)
                self.assertEqual(found, tuple(wanted))
                seen.add(tuple(bool(many) for many in wanted))
            seen.add(("choices", len(choices) < 2 ** len(doubtful), len(rows) > 1))
        self.assertTrue({(True, True, True), (True, True, False), (True, False, True), ("several", True), ("several", False)} <= seen, seen)
        self.assertTrue({("choices", first, second) for first in (True, False) for second in (True, False)} <= seen, seen)

    def test_twelve(self):
        chance = random.Random(432)
        for machine in (FRONT_MACHINE, SORT, USE, KINDS, APART_FULL):
            log = chance_run(chance, machine, 22)
            doubtful = sorted(chance.sample(range(len(log)), 12))
            choices = all_choices(machine, log, doubtful)
            self.assertEqual(choices_many(machine, log, doubtful), len(choices))
            row = len(machine[1][0][0]) - 1
            rows = sorted({tuple(machine_model.row_of(machine, row, figures)) for _, figures in choices})
            self.assertEqual(rows_in_doubt(machine, log, doubtful, row), rows)

    def test_many_choices_few_rows(self):
        # Twelve deeds that nobody sees.
        log = [(0, (0, number)) for number in range(4)] + [(1, (0, number)) for number in range(4)] * 3
        doubtful = list(range(4, 16))
        self.assertEqual(choices_many(COME, log, doubtful), 4096)
        self.assertEqual(rows_in_doubt(COME, log, doubtful, 0), [(A, B, C, D)])
        self.assertEqual(choice_for_row(COME, log, doubtful, 0, [A, B, C, D]), doubtful)
        self.assertEqual(ahead_in_doubt(COME, log, doubtful, 0, A, B), (4096, 0, 0))

    def test_too_many_rows(self):
        machine = stairs(13)
        self.assertTrue(model.ok_machine(machine))
        # On eight steps, and thrice on five: so many rows, by 4,096 choices.
        log, doubtful = stairs_log(13, [(1, 2, 4), (1, 1, 2), (1, 1, 2), (1, 1, 2)])
        self.assertEqual(choices_many(machine, log, doubtful), 4096)
        rows = rows_in_doubt(machine, log, doubtful, 0)
        self.assertEqual(len(rows), 1000)
        self.assertEqual(rows, sorted(set(rows)))
        # On seven, eleven and thirteen steps.
        log, doubtful = stairs_log(13, [(1, 2, 3), (1, 2, 3, 4), (1, 2, 4, 5)])
        with self.assertRaises(TooMany) as caught:
            rows_in_doubt(machine, log, doubtful, 0)
        self.assertEqual(caught.exception.most, 1000)
        rows = {tuple(machine_model.row_of(machine, 0, figures)) for _, figures in all_choices(machine, log, doubtful)}
        self.assertEqual(len(rows), 1001)
        # The others tell all the same.
        self.assertEqual(choices_many(machine, log, doubtful), 2048)
        things = machine_model.row_of(machine, 0, model.figures_behind(machine, log))
        self.assertEqual(choice_for_row(machine, log, doubtful, 0, things), doubtful)
        self.assertEqual(sum(ahead_in_doubt(machine, log, doubtful, 0, A, B)), 2048)


if __name__ == "__main__":
    unittest.main()
