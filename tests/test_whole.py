"""[5] to [9] over the whole program: all that is told of one rulebook agrees."""

import itertools
import random
import unittest

from ownmoment.alike import are_alike
from ownmoment.bothers import bother_of, bothered_at, is_bother, is_unbothered
from ownmoment.closings import closing_table, does_close, is_closing_table
from ownmoment.compiler import full_machine, is_machine_of, machine_of
from ownmoment.desk import Desk
from ownmoment.errors import Bothered, NotLet, TooMany
from ownmoment.late import Past
from ownmoment.leading import fewest_to, is_price_table, prices_to
from ownmoment.ledger import Ledger
from ownmoment.logs import are_alike_logs, least_log, spare_tuples
from ownmoment.machines import figures_of, first_barred, led_on, row_by, row_machine
from ownmoment.orders import order_for_row, rows_that_stand
from ownmoment.places import fewest_into
from ownmoment.player import Player
from ownmoment.reader import read_book, read_run
from ownmoment.rings import chain_of, most_in_chain, order_fault, ring_of
from ownmoment.runs import is_run
from ownmoment.store import Store
from ownmoment.texts import show_book, show_run
from ownmoment.ties import ties_among
from ownmoment.unseen import fewest_movers, sure_movers
from tests.machine_books import KNOWN, wide_book
from tests.samples import ASK, FRONT, LEAST, PASS, SWAP, chance_books
from tests.tie_model import chance_tie

BOOKS = [book for book, _, _ in KNOWN] + [ASK, FRONT, LEAST, PASS, SWAP]


def played(player, run):
    other = player.copied()
    for deed, x in run:
        other.do(deed, x)
    return other


def drawn_run(chance, book, length, things):
    """A run of the rulebook, and that nothing else is let on the way, by a Player."""
    player = Player(book)
    while len(player.run_done()) < length:
        there = {x for x, _ in player.stand_now()[1]}
        x = chance.choice(things)
        deed = 0 if x not in there else chance.choice([-1] + list(range(1, len(book[4]))) * 3)
        try:
            player.do(deed, x)
        except NotLet:
            if all(player.mark_of(y) not in let for y in there for let, _ in book[4][1:]):
                player.do(-1, x)
    return player


class WholeTest(unittest.TestCase):

    def books(self):
        yield from BOOKS
        yield wide_book(1)
        for book in chance_books(521, 180, rows=1, marks=2, notes=1, most=2) + chance_books(522, 130, rows=2, marks=1, notes=1, most=2):
            yield book

    def test_all_agree(self):
        chance = random.Random(523)
        many = {"bothered": 0, "unbothered": 0, "more": 0}
        self.seen = set()
        for book in self.books():
            text = show_book(book)
            self.assertEqual(read_book(text), book)
            try:
                found = bother_of(book)
            except TooMany:
                self.assertEqual(Desk(text).do("verdict"), ["refused TooMany"])
                continue
            # A few bothered ones are enough.
            many["bothered" if found else "unbothered"] += 1
            if found and many["bothered"] > 60:
                continue
            if found:
                self.bothered(book, text, found)
            else:
                machine, full = machine_of(book), full_machine(book)
                self.unbothered(chance, book, text, machine, full)
                many["more"] += len(full[1]) > 2
        self.assertGreater(min(many.values()), 30, many)
        wanted = {("ring", 2), ("ring", None), ("chain", 2), ("chain", 4), ("fault", 3), ("fault", None), ("fewest", None), ("fewest", 0), ("fewest", 1), ("fewest", 2)}
        self.assertTrue(wanted <= self.seen, wanted - self.seen)

    def bothered(self, book, text, found):
        run, some, at = found
        self.assertTrue(is_bother(book, found))
        self.assertEqual(bothered_at(book, run, some), (len(run) - 1, at))
        self.assertEqual(read_run(show_run(run)), run)
        self.assertEqual(Desk(text).do("verdict"), ["bothered", *show_run(run).split("\n"), "of " + " ".join(f"{x[0]}.{x[1]}" for x in some)])
        ledger = Ledger(book)
        for claim in (("unbothered",), ("like", KNOWN[0][1]), ("no ring", ())):
            ledger.keep(claim)
        self.assertEqual(ledger.states_now(), [False, False, False])
        for call in (machine_of, full_machine):
            with self.assertRaises(Bothered) as caught:
                call(book)
            self.assertEqual((caught.exception.run, caught.exception.some, caught.exception.at), found)
        # A Player sees what is bothered, with and without the third thing.
        with_all, alone = Player(book), Player(book)
        for deed, x in run:
            with_all.do(deed, x)
            if x in some:
                alone.do(deed, x)
        self.assertEqual(with_all.run_done(), run)

    def unbothered(self, chance, book, text, machine, full):
        self.assertTrue(is_unbothered(book))
        self.assertTrue(is_machine_of(book, machine))
        self.assertTrue(are_alike(machine, row_machine(full, 0)))
        self.assertEqual(Desk(text).do("verdict"), ["unbothered"])
        ledger = Ledger(book)
        for claim in (("unbothered",), ("like", machine), ("like", row_machine(full, 0))):
            ledger.keep(claim)
        self.assertEqual(ledger.states_now(), [True, True, True])
        things = [(kind, number) for kind in range(len(book[0])) for number in (0, 3, 4)]
        player = drawn_run(chance, book, 16, things)
        self.rows_agree(book, text, machine, full, player)
        self.logs_agree(chance, book, machine, full, player)
        self.leading_agrees(chance, full, player)
        self.ties_agree(chance, book, full)

    def rows_agree(self, book, text, machine, full, player):
        run = player.run_done()
        self.assertTrue(is_run(book, run))
        self.assertIsNone(first_barred(machine, run))
        store, past, desk = Store(machine), Past(machine), Desk(text)
        for at, (deed, x) in enumerate(run):
            store.do(deed, x)
            past.put_in(at, deed, x)
        self.assertEqual([desk.do(line) for line in show_run(run).split("\n")], [["done"]] * len(run))
        row = list(player.row_now(0))
        self.assertEqual(row_by(machine, 0, figures_of(machine, run)), row)
        self.assertEqual([store.row(), past.row()], [row, row])
        self.assertEqual([store.figures(), past.figures()], [figures_of(machine, run)] * 2)
        for which in range(book[2]):
            now = player.row_now(which)
            self.assertEqual(row_by(full, which, figures_of(full, run)), list(now))
            self.assertEqual(desk.do(f"row {which}"), [" ".join(f"{x[0]}.{x[1]}" for x in now)])
        for x, (point, _) in figures_of(full, run):
            self.assertEqual(full[1][point][2], (x[0], player.mark_of(x)))

    def logs_agree(self, chance, book, machine, full, player):
        """Behind a least log, and behind one with a spare tuple left out, all rows and marks are the same, for ever."""
        run = player.run_done()
        least = least_log(full, run)
        self.assertTrue(are_alike_logs(full, run, least))
        others = [least] + [run[:index] + run[index + 1:] for index in spare_tuples(full, run)[:2]]
        for other in others:
            rival = played(Player(book), other)
            self.assertEqual((rival.stand_now()[0], rival.stand_now()[1]), (player.stand_now()[0], player.stand_now()[1]))
            mine, theirs = player.copied(), rival
            for _ in range(12):
                there = [x for x, _ in mine.stand_now()[1]]
                deeds = [(deed, x) for x in there for deed, (let, _) in enumerate(book[4]) if deed and mine.mark_of(x) in let]
                if not deeds:
                    break
                one = chance.choice(deeds)
                mine.do(*one)
                theirs.do(*one)
                self.assertEqual(theirs.stand_now()[:2], mine.stand_now()[:2])
        row = player.row_now(0)
        self.assertIsNotNone(order_for_row(machine, run, [], 0, list(row)))
        try:
            self.assertIn(row, rows_that_stand(machine, run, [], 0))
        except TooMany:
            pass

    def leading_agrees(self, chance, full, player):
        """What fewest_to tells is played on by the Player, in each row."""
        run = player.run_done()
        figures = figures_of(full, run)
        for row in range(len(full[1][0][0])):
            things = list(player.row_now(row))
            for wished in [things, things[::-1]] + [chance.sample(things, len(things)) for _ in range(3)]:
                found = fewest_to(full, figures, row, wished)
                self.seen.add(("fewest", found and found[0]))
                table = prices_to(full, figures, row, wished)
                self.assertTrue(is_price_table(full, figures, row, wished, table))
                if found is None:
                    self.assertIsNone(sure_movers(full, figures, row, wished))
                    continue
                self.assertEqual(list(played(player, found[1]).row_now(row)), wished)
                self.assertEqual(row_by(full, row, led_on(full, figures, found[1], len(run))), wished)
                few = fewest_movers(full, figures, row, wished)
                self.assertEqual(list(played(player, few[1]).row_now(row)), wished)
                self.assertTrue(set(sure_movers(full, figures, row, wished)) <= {x for _, x in few[1]})
                self.assertLessEqual(few[0], len({x for _, x in found[1]}))
            for x in things[:2]:
                into = fewest_into(full, figures, row, x, 1)
                if into is not None:
                    self.assertEqual(played(player, into[1]).row_now(row)[0], x)

    def ties_agree(self, chance, book, full):
        """Chains and rings stand in the rows of a Player, by its marks."""
        for _ in range(3):
            tie = chance_tie(chance, full)
            try:
                table = closing_table(full, tie)
            except TooMany:
                continue
            self.assertTrue(is_closing_table(full, tie, table))
            ring = ring_of(full, tie)
            self.seen.add(("ring", ring and len(ring[1])))
            self.assertEqual(ring is not None, any(does_close(full, tie, entry) for entry in table))
            ledger = Ledger(book)
            ledger.keep(("no ring", tie))
            self.assertEqual(ledger.states_now(), [ring is None])
            if ring is not None:
                self.assertIsNone(most_in_chain(full, tie))
                self.tied_in(book, full, tie, ring[0], list(zip(ring[1], ring[1][1:] + ring[1][:1])))
            for many in (1, 2, 4):
                chain = chain_of(full, tie, many)
                if chain is not None:
                    self.seen.add(("chain", many))
                    self.tied_in(book, full, tie, chain[0], list(zip(chain[1], chain[1][1:])))
            fault = order_fault(full, tie)
            self.seen.add(("fault", fault and len(fault[1])))
            if fault is not None:
                self.tied_in(book, full, tie, fault[0], list(zip(fault[1], fault[1][1:])))

    def tied_in(self, book, full, tie, run, pairs):
        self.assertTrue(is_run(book, run))
        player = played(Player(book), run)
        tied = []
        there = [x for x, _ in player.stand_now()[1]]
        rows = [player.row_now(row) for row in range(book[2])]
        for x, y in itertools.permutations(there, 2):
            labels = [(z[0], player.mark_of(z)) for z in (x, y)]
            for one, other, sides in tie:
                if labels == [one, other] and all(side == 0 or (side == 1) == (row.index(x) < row.index(y)) for side, row in zip(sides, rows)):
                    tied.append((x, y))
                    break
        self.assertEqual(ties_among(full, tie, figures_of(full, run)), sorted(tied))
        self.assertTrue(set(pairs) <= set(tied))


if __name__ == "__main__":
    unittest.main()
