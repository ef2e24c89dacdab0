"""[3]: equal arguments give equal results, whatever was asked before; arguments stay as they are; truths are truths."""

import copy
import random
import unittest

from ownmoment import closings, doubts, leading, logs, orders, places, rings, ties, turns, unseen
from ownmoment.errors import MomentError
from tests import machine_model, model, tie_model
from tests.machine_books import APART_FULL, ELDER, KINDS, SORT, USE
from tests.samples import FRONT_MACHINE, WIDE_MACHINE, lasting, spoil
from tests.test_machines import chance_machine, chance_run
from tests.test_orders import drawn_before
from tests.test_turns import drawn_figures, drawn_keeping


def answer(function, arguments):
    """What comes of it, in a form that keeps truths and numbers apart."""
    try:
        return lasting(function(*arguments))
    except MomentError as error:
        return lasting((type(error).__name__, vars(error)))


def of_houses(chance):
    for _ in range(12):
        house = drawn_keeping(chance)
        figures = drawn_figures(chance, house, chance.randrange(2, 5))
        yield turns.keeps_waiting, (house,)
        yield turns.turns_of, (house, figures, chance.randrange(20))
        yield turns.round_of, (house, figures)
        yield turns.shares_of, (house, figures)
        yield turns.served_ahead, (house, figures[0][1], figures[1][1], chance.randrange(1, 20))


def of_logs(chance):
    for at in range(24):
        machine = (FRONT_MACHINE, WIDE_MACHINE, ELDER, KINDS, SORT, USE, APART_FULL)[at] if at < 7 else chance_machine(chance)
        log = chance_run(chance, machine, 12)
        other = chance_run(chance, machine, 12)
        row = chance.randrange(len(machine[1][0][0]))
        before, doubtful = drawn_before(chance, log, .2), sorted(chance.sample(range(len(log)), min(5, len(log))))
        figures = model.figures_behind(machine, log)
        things = machine_model.row_of(machine, row, figures)
        chance.shuffle(things)
        x, y = (0, 0), (len(machine[0]) - 1, 1)
        yield logs.meeting_moments, (machine, 0, len(machine[1]) - 1)
        yield logs.are_alike_logs, (machine, log, other)
        yield logs.can_swap, (machine, log, chance.randrange(-1, 12))
        yield logs.shortest_past, (machine, 0, len(machine[1]) - 1)
        yield from ((function, (machine, log)) for function in (logs.least_log, logs.spare_tuples))
        yield orders.critical_tuples, (machine, log, row)
        yield from ((function, (machine, log, before, row)) for function in (orders.surely_ahead, orders.rows_that_stand))
        yield from ((function, (machine, log, before, row, things)) for function in (orders.order_for_row, orders.row_bar))
        yield doubts.choices_many, (machine, log, doubtful)
        yield doubts.rows_in_doubt, (machine, log, doubtful, row)
        yield doubts.choice_for_row, (machine, log, doubtful, row, things)
        yield doubts.ahead_in_doubt, (machine, log, doubtful, row, x, y)
        for function in (leading.fewest_to, leading.prices_to, unseen.sure_movers, unseen.fewest_movers, unseen.points_now):
            yield function, (machine, figures, row, things)
        table = leading.prices_to(machine, figures, row, things)
        yield leading.is_price_table, (machine, figures, row, things, table)
        yield leading.is_price_table, (machine, figures, row, things, [[]])
        if figures:
            yield leading.ways_to_stand, (machine, figures[0][1], row)
        yield places.fewest_into, (machine, figures, row, x, chance.randrange(1, 4))
        yield places.fewest_out, (machine, figures, row, x, chance.randrange(1, 4), chance.randrange(3))


def of_ties(chance):
    for _ in range(20):
        machine = tie_model.labelled(chance)
        tie = tie_model.chance_tie(chance, machine)
        figures = model.figures_behind(machine, chance_run(chance, machine, 10))
        yield ties.is_tie, (len(machine[1][0][0]), tie)
        yield ties.ties_among, (machine, tie, figures)
        yield ties.weavings_between, (machine, 0, len(machine[1]) - 1)
        yield ties.tying_weavings, (machine, tie, 0, len(machine[1]) - 1)
        if len(figures) > 1:
            yield ties.is_tied, (machine, tie, figures[0][1], figures[1][1])
            yield ties.weaving_by, (figures[0][1], figures[1][1])
        for function in (rings.most_in_chain, rings.ring_of, rings.order_fault, closings.closing_table):
            yield function, (machine, tie)
        yield rings.chain_of, (machine, tie, chance.randrange(1, 6))
        table = closings.closing_table(machine, tie)
        yield closings.is_closing_table, (machine, tie, table)
        if table:
            yield closings.does_close, (machine, tie, table[0])
            yield closings.is_closing_table, (machine, tie, table[1:])


class AgainTest(unittest.TestCase):

    def test_whatever_was_asked_between(self):
        chance = random.Random(531)
        calls = [*of_houses(chance), *of_logs(chance), *of_ties(chance)]
        self.assertGreater(len({function for function, _ in calls}), 38)
        given = [lasting(arguments) for _, arguments in calls]
        told = [answer(*call) for call in calls]
        for _ in range(2):
            order = list(range(len(calls)))
            chance.shuffle(order)
            for at in order:
                function, arguments = calls[at]
                # Equal arguments, not the same ones.
                self.assertEqual(answer(function, copy.deepcopy(arguments)), told[at], function.__name__)
        self.assertEqual([lasting(arguments) for _, arguments in calls], given)

    def test_what_is_returned_is_the_callers(self):
        chance = random.Random(532)
        for function, arguments in [*of_houses(chance), *of_logs(chance), *of_ties(chance)]:
            before, told = lasting(arguments), answer(function, arguments)
            try:
                spoil(function(*arguments))
            except MomentError:
                continue
            self.assertEqual(lasting(arguments), before, function.__name__)
            self.assertEqual(answer(function, arguments), told, function.__name__)

    def test_truths(self):
        chance = random.Random(533)
        truths = (logs.are_alike_logs, logs.can_swap, leading.is_price_table, ties.is_tie, ties.is_tied, closings.does_close, closings.is_closing_table)
        seen = set()
        for function, arguments in [*of_houses(chance), *of_logs(chance), *of_ties(chance)]:
            found = answer(function, arguments)
            if function in truths:
                self.assertTrue(found in ("True", "False") or found.startswith("('NoIndex'"), found)
                seen.add((function, found))
            else:
                self.assertNotIn("True", found)
                self.assertNotIn("False", found)
        self.assertTrue({(function, truth) for function in truths for truth in ("True", "False")} - {(ties.is_tie, "False")} <= seen)


if __name__ == "__main__":
    unittest.main()
