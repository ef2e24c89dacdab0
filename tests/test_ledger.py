"""[70]: a rulebook that is changed, and claims of it."""

import functools
import random
import unittest

from ownmoment.alike import are_alike
from ownmoment.bothers import is_unbothered
from ownmoment.compiler import full_machine, machine_of
from ownmoment.errors import Bothered, MomentError, Nothing, TooMany, Unlike, Wrong
from ownmoment.ledger import Ledger
from ownmoment.rings import ring_of
from tests import model, tie_model
from tests.machine_books import (
    APART, APART_BOOK, APART_FULL, COME, COME_BOOK, ELDER, ELDER_BOOK, KINDS, KINDS_BOOK, SORT, SORT_BOOK, USE, USE_BOOK, one_row, wide_book)
from tests.samples import ASK, FRONT, FRONT_MACHINE, JUST_OVER, LEAST, LEAST_MACHINE, SWAP, WIDE, any_values, chance_book, full_book, lasting, spoil, variants

LATER, EARLIER = "later", "earlier"
FIRST_TO_LATER = (((0, 0), (0, 0), (1,)),)
EACH_TO_EACH = (((0, 0), (0, 0), (0,)),)

# Five marks, by which the row is sorted; the deed leads from each to the next one.
FIVE = ((0,), 5, 1, 1, (
    ((), (("leap", 0, (((0,), (1, 2, 3, 4), (), (), 0),)),)),
    ((0, 1, 2, 3, 4), (("mark", (1, 2, 3, 4, 0)), ("last", 0),
                       ("leap", 0, tuple(((mark,), tuple(range(mark + 1, 5)), (), (), 0) for mark in range(4))))),
))


def steps_round(many):
    """A machine of so many classes, from each of which the deed leads to the next one."""
    return one_row((0,), [(at, EARLIER, 0, 1) for at in range(many)], tuple((((at + 1) % many, (-1,)),) for at in range(many)))


@functools.cache
def made_for(book, name):
    """What the function returns that claims of this sort name first, or the error that it raises."""
    try:
        return {"unbothered": is_unbothered, "like": machine_of, "no ring": full_machine}[name](book)
    except (TooMany, Bothered) as error:
        return error


def state_of(book, claim):
    """By the definition."""
    machine = made_for(book, claim[0])
    if isinstance(machine, MomentError):
        return None if isinstance(machine, TooMany) else False
    if claim[0] == "unbothered":
        return machine
    if claim[0] == "no ring" and not tie_model.ok_tie(book[2], claim[1]):
        return False
    try:
        return are_alike(machine, claim[1]) if claim[0] == "like" else ring_of(machine, claim[1]) is None
    except TooMany:
        return None
    except Unlike:
        return False


def ok_claim(value):
    if type(value) is not tuple or not value or type(value[0]) is not str:
        return False
    if value[0] == "unbothered":
        return len(value) == 1
    if len(value) != 2:
        return False
    if value[0] == "like":
        return model.ok_machine(value[1])
    return value[0] == "no ring" and (tie_model.ok_tie(1, value[1]) or tie_model.ok_tie(2, value[1]))


class Plain:
    """A ledger as all that it has been, one after the other."""

    def __init__(self, book):
        self.pages, self.at, self.deeds, self.known = [(book, ())], 0, [], {}

    def state(self, book, claim):
        if (book, claim) not in self.known:
            self.known[book, claim] = state_of(book, claim)
        return self.known[book, claim]

    def told(self):
        book, claims = self.pages[self.at]
        return (book, list(claims), [self.state(book, claim) for claim in claims], self.deeds[:self.at], len(self.deeds) - self.at)

    def turn(self, at):
        (old, claims), (new, rest) = self.pages[self.at], self.pages[at]
        self.at = at
        if old == new:
            return []
        assert claims == rest
        return [index for index, claim in enumerate(claims) if self.state(old, claim) is True and self.state(new, claim) is not True]

    def do(self, name, *arguments):
        """What the call returns, or the error."""
        book, claims = self.pages[self.at]
        begin, marks, rows, notes, deeds = book
        if name in ("undo", "redo"):
            if self.at == (0 if name == "undo" else len(self.deeds)):
                return Nothing()
            return self.turn(self.at - 1 if name == "undo" else self.at + 1)
        if name == "set_begin":
            kind, mark = arguments
            if not model.ok_int(kind, 0, len(begin) - 1):
                return Wrong(0)
            if not model.ok_int(mark, 0, marks - 1):
                return Wrong(1)
            page = (((*begin[:kind], mark, *begin[kind + 1:]), *book[1:]), claims)
        elif name == "set_deed":
            deed, entry = arguments
            if not model.ok_int(deed, 0, min(len(deeds), 5)):
                return Wrong(0)
            page = ((*book[:4], (*deeds[:deed], entry, *deeds[deed + 1:])), claims)
            if not model.ok_book(page[0]):
                return Wrong(1)
        elif name == "drop_deed":
            if len(deeds) == 1:
                return Nothing()
            page = ((*book[:4], deeds[:-1]), claims)
        elif name == "keep":
            if not ok_claim(arguments[0]):
                return Wrong(0)
            if len(claims) == 4:
                return TooMany(4)
            page = (book, (*claims, arguments[0]))
        else:
            assert name == "drop"
            if not model.ok_int(arguments[0], 0, len(claims) - 1):
                return Wrong(0)
            page = (book, claims[:arguments[0]] + claims[arguments[0] + 1:])
        self.pages[self.at + 1:] = [page]
        self.deeds[self.at:] = [(name, *arguments)]
        return self.turn(self.at + 1)


def told(ledger):
    return (ledger.book_now(), ledger.claims_now(), ledger.states_now(), ledger.deeds_done(), ledger.many_undone())


class LedgerTest(unittest.TestCase):

    def check(self, ledger, plain, name, *arguments):
        wanted = plain.do(name, *arguments)
        before, given = told(ledger), lasting(arguments)
        if isinstance(wanted, MomentError):
            with self.assertRaises(type(wanted)) as caught:
                getattr(ledger, name)(*arguments)
            self.assertEqual(vars(caught.exception), vars(wanted), (name, arguments))
            self.assertEqual(told(ledger), before)
            return type(wanted).__name__
        found = getattr(ledger, name)(*arguments)
        self.assertEqual(lasting(found), lasting(wanted), (name, arguments))
        self.assertEqual(lasting(told(ledger)), lasting(plain.told()))
        self.assertEqual(lasting(arguments), given)
        many = len(found)
        spoil(found)
        return many

    def test_by_hand(self):
        ledger = Ledger(COME_BOOK)
        self.assertEqual(told(ledger), (COME_BOOK, [], [], [], 0))
        self.assertEqual(ledger.keep(("unbothered",)), [])
        self.assertEqual(ledger.keep(("like", COME)), [])
        self.assertEqual(ledger.keep(("like", USE)), [])
        self.assertEqual(ledger.keep(("no ring", FIRST_TO_LATER)), [])
        self.assertEqual(ledger.states_now(), [True, True, False, True])
        # The deed brings to the front: another machine, but still unbothered.
        self.assertEqual(ledger.set_deed(1, ((0,), (("first", 0),))), [1])
        self.assertEqual(ledger.states_now(), [True, False, False, True])
        self.assertEqual(ledger.set_deed(0, ((), (("first", 0),))), [])
        self.assertEqual(ledger.states_now(), [True, False, True, True])
        self.assertEqual(ledger.book_now(), USE_BOOK)
        self.assertEqual(ledger.set_deed(1, ((0,), (("up", 0),))), [0, 2, 3])
        self.assertEqual(ledger.states_now(), [False, False, False, False])
        self.assertEqual(ledger.undo(), [])
        self.assertEqual(ledger.undo(), [2])
        self.assertEqual(ledger.many_undone(), 2)
        self.assertEqual(ledger.redo(), [])
        self.assertEqual(ledger.redo(), [0, 2, 3])
        self.assertEqual(ledger.drop(1), [])
        self.assertEqual(ledger.claims_now(), [("unbothered",), ("like", USE), ("no ring", FIRST_TO_LATER)])
        self.assertEqual(ledger.deeds_done(), [("keep", ("unbothered",)), ("keep", ("like", COME)), ("keep", ("like", USE)), ("keep", ("no ring", FIRST_TO_LATER)),
                                               ("set_deed", 1, ((0,), (("first", 0),))), ("set_deed", 0, ((), (("first", 0),))),
                                               ("set_deed", 1, ((0,), (("up", 0),))), ("drop", 1)])
        self.assertEqual(ledger.set_deed(2, ((), ())), [])
        self.assertEqual(ledger.drop_deed(), [])
        self.assertEqual(ledger.deeds_done()[-1], ("drop_deed",))
        self.assertEqual(ledger.set_begin(0, 0), [])
        self.assertEqual(ledger.deeds_done()[-1], ("set_begin", 0, 0))

    def test_any_deed_leaves_nothing_to_redo(self):
        for name, arguments in (("set_begin", (0, 0)), ("set_deed", (1, COME_BOOK[4][1])), ("drop_deed", ()), ("keep", (("unbothered",),)), ("drop", (0,))):
            ledger, plain = Ledger(COME_BOOK), Plain(COME_BOOK)
            self.check(ledger, plain, "keep", ("like", COME))
            self.check(ledger, plain, "set_deed", 1, ((0,), (("up", 0),)))
            self.check(ledger, plain, "undo")
            self.assertEqual(ledger.many_undone(), 1)
            self.check(ledger, plain, name, *arguments)
            self.assertEqual(ledger.many_undone(), 0)
            self.assertEqual(self.check(ledger, plain, "redo"), "Nothing")
            # A call that is refused does not.
            self.check(ledger, plain, "undo")
            for wrong in (("set_begin", 1, 0), ("set_deed", 3, ((), ())), ("keep", ()), ("drop", 1), ("set_deed", 1, None)):
                self.assertEqual(self.check(ledger, plain, *wrong), "Wrong")
            self.assertEqual(ledger.many_undone(), 1)
            self.check(ledger, plain, "redo")

    def test_states(self):
        """Each sort of claim, with each state."""
        seen = set()
        over = JUST_OVER[0][1]
        great = (((0, 0), (0, 0), (0, 0)), ((0, 0), (0, 1), (0, 0)), ((0, 1), (0, 0), (0, 0)), ((0, 1), (0, 1), (0, 0)))
        machines = (COME, USE, SORT, ELDER, KINDS, APART, APART_FULL, FRONT_MACHINE, LEAST_MACHINE, steps_round(5), steps_round(10), steps_round(4),
                    steps_round(1199), steps_round(1201))
        claims = [("unbothered",)] + [("like", machine) for machine in machines]
        claims += [("no ring", tie) for tie in ((), FIRST_TO_LATER, EACH_TO_EACH, (((0, 0), (0, 0), (1, 2)),), (((1, 4), (7, 7), (0,)),), great)]
        for book in (COME_BOOK, USE_BOOK, SORT_BOOK, ELDER_BOOK, KINDS_BOOK, APART_BOOK, FRONT, LEAST, FIVE, ASK, SWAP, over, wide_book(1)):
            ledger, plain = Ledger(book), Plain(book)
            for claim in claims:
                self.check(ledger, plain, "keep", claim)
                seen.add((claim[0], ledger.states_now()[0]))
                self.check(ledger, plain, "drop", 0)
        self.assertEqual(seen, {(name, state) for name in ("unbothered", "like", "no ring") for state in (True, False, None)})

    def test_states_by_hand(self):
        def state(book, claim):
            ledger = Ledger(book)
            ledger.keep(claim)
            return ledger.states_now()[0]
        self.assertEqual([state(book, ("unbothered",)) for book in (FRONT, SWAP, JUST_OVER[0][1])], [True, False, None])
        self.assertEqual([state(FIVE, ("like", steps_round(many))) for many in (5, 10, 4, 1199, 1201, 1200)], [True, False, False, False, None, False])
        self.assertEqual([state(book, ("like", APART)) for book in (APART_BOOK, SWAP, JUST_OVER[0][1])], [True, False, None])
        # Other numbers of kinds, deeds or rows.
        self.assertEqual([state(APART_BOOK, ("like", machine)) for machine in (APART_FULL, KINDS, LEAST_MACHINE, COME)], [False, False, False, False])
        self.assertEqual([state(JUST_OVER[0][1], ("like", machine)) for machine in (APART_FULL, KINDS, LEAST_MACHINE)], [None, None, None])
        self.assertEqual([state(book, ("no ring", FIRST_TO_LATER)) for book in (COME_BOOK, SWAP, JUST_OVER[0][1])], [True, False, None])
        self.assertEqual([state(COME_BOOK, ("no ring", tie)) for tie in ((), EACH_TO_EACH, (((0, 0), (0, 0), (1, 1)),))], [True, False, False])
        self.assertEqual([state(APART_BOOK, ("no ring", tie)) for tie in ((), EACH_TO_EACH, (((0, 0), (0, 0), (1, 1)),))], [True, False, True])
        # None, whatever the tie is.
        self.assertEqual([state(JUST_OVER[0][1], ("no ring", tie)) for tie in ((), EACH_TO_EACH, (((0, 0), (0, 0), (1, 1)),))], [None, None, None])

    def test_true_that_becomes_none(self):
        # What is not True any more is told, also if it is not known.
        over = JUST_OVER[0][1]
        ledger, plain = Ledger(over), Plain(over)
        self.check(ledger, plain, "keep", ("unbothered",))
        self.check(ledger, plain, "set_deed", 2, over[4][1])
        self.check(ledger, plain, "drop_deed")
        self.check(ledger, plain, "drop_deed")
        self.assertEqual(ledger.states_now(), [True])
        self.check(ledger, plain, "undo")
        self.check(ledger, plain, "undo")
        self.check(ledger, plain, "undo")
        self.assertEqual(ledger.states_now(), [None])
        self.check(ledger, plain, "redo")
        self.check(ledger, plain, "redo")
        self.assertEqual(self.check(ledger, plain, "redo"), 0)
        self.assertEqual(ledger.states_now(), [True])
        self.assertEqual(self.check(ledger, plain, "undo"), int(ledger.states_now() != [True]))

    def test_many_calls(self):
        chance = random.Random(501)
        seen = set()
        for start in (COME_BOOK, ELDER_BOOK, SORT_BOOK, KINDS_BOOK, APART_BOOK, SWAP, LEAST, FRONT):
            ledger, plain = Ledger(start), Plain(start)
            claims = [("unbothered",), ("like", COME), ("like", USE), ("like", ELDER), ("like", KINDS), ("like", APART), ("like", FRONT_MACHINE),
                      ("like", APART_FULL), ("no ring", ()), ("no ring", FIRST_TO_LATER), ("no ring", EACH_TO_EACH), ("no ring", (((0, 0), (0, 0), (1, 2)),))]
            for _ in range(330 if start[1] == 1 and start[2] == 1 else 25):
                book = ledger.book_now()
                same = dict(kinds=len(book[0]), marks=book[1], rows=book[2], notes=book[3], deeds=2, most=2)
                entries = [chance_book(chance, **same)[4][1] for _ in range(2)] + [chance.choice(book[4]), ((), ())]
                entry = chance.choice(entries + [(tuple(range(book[1])), (("first", 0),)), (tuple(range(book[1])), (("last", 0),)), ((0,), (("up", 0),))])
                call = chance.choice([
                    ("set_begin", chance.randrange(-1, 3), chance.randrange(-1, book[1] + 1)), ("set_deed", chance.randrange(-1, len(book[4]) + 2), entry),
                    ("set_deed", len(book[4]), entry), ("set_deed", chance.randrange(len(book[4])), entry), ("drop_deed",), ("keep", chance.choice(claims)),
                    ("keep", chance.choice(claims)), ("drop", chance.randrange(-1, 4)), ("undo",), ("undo",), ("redo",), ("redo",)])
                seen.add((call[0], self.check(ledger, plain, *call)))
        wanted = {("set_begin", 0), ("set_begin", "Wrong"), ("set_deed", 0), ("set_deed", 1), ("set_deed", 2), ("set_deed", "Wrong"), ("drop_deed", 0),
                  ("drop_deed", "Nothing"), ("drop_deed", 1), ("keep", 0), ("keep", "TooMany"), ("drop", 0), ("drop", "Wrong"), ("undo", 0), ("undo", 1),
                  ("undo", "Nothing"), ("redo", 0), ("redo", 1), ("redo", "Nothing")}
        self.assertTrue(wanted <= seen, wanted - seen)

    def test_four_claims(self):
        ledger, plain = Ledger(COME_BOOK), Plain(COME_BOOK)
        for claim in (("unbothered",), ("unbothered",), ("like", USE), ("no ring", ())):
            self.assertEqual(self.check(ledger, plain, "keep", claim), 0)
        self.assertEqual(self.check(ledger, plain, "keep", ("unbothered",)), "TooMany")
        # Wrong comes ahead of it.
        self.assertEqual(self.check(ledger, plain, "keep", ("bothered",)), "Wrong")
        self.assertEqual(self.check(ledger, plain, "drop", 0), 0)
        self.assertEqual(ledger.claims_now(), [("unbothered",), ("like", USE), ("no ring", ())])
        self.assertEqual(self.check(ledger, plain, "keep", ("like", COME)), 0)

    def test_six_deeds(self):
        ledger, plain = Ledger(LEAST), Plain(LEAST)
        self.assertEqual(self.check(ledger, plain, "drop_deed"), "Nothing")
        for deed in range(1, 6):
            self.assertEqual(self.check(ledger, plain, "set_deed", deed + 1, ((0,), ())), "Wrong")
            self.assertEqual(self.check(ledger, plain, "set_deed", deed, ((0,), ())), 0)
        self.assertEqual(self.check(ledger, plain, "set_deed", 6, ((0,), ())), "Wrong")
        with self.assertRaises(Wrong) as caught:
            ledger.set_deed(6, ((0,), ()))
        self.assertEqual(caught.exception.place, 0)
        self.assertEqual(self.check(ledger, plain, "set_deed", 5, ((), ())), 0)
        # Deed 0 has no marks.
        self.assertEqual(self.check(ledger, plain, "set_deed", 0, ((0,), ())), "Wrong")
        self.assertEqual(self.check(ledger, plain, "set_deed", 0, ((), (("last", 0),))), 0)

    def test_wrong(self):
        for value in any_values() + [FRONT_MACHINE, ("like", FRONT), ("no ring", COME), ("unbothered", ()), ("unbothered", COME), ["unbothered"], ("like",), ("no ring",)]:
            if not model.ok_book(value):
                with self.assertRaises(Wrong) as caught:
                    Ledger(value)
                self.assertEqual(caught.exception.place, 0)
            ledger, plain = Ledger(ELDER_BOOK), Plain(ELDER_BOOK)
            self.check(ledger, plain, "keep", ("unbothered",))
            for call in (("set_begin", value, 0), ("set_begin", 0, value), ("set_begin", value, value), ("set_deed", value, ((), ())), ("set_deed", 1, value),
                         ("set_deed", value, value), ("set_deed", 1, (value, ())), ("set_deed", 1, ((0,), value)), ("set_deed", 1, ((0,), (value,))),
                         ("keep", value), ("keep", (value,)), ("keep", ("like", value)), ("keep", ("no ring", value)), ("keep", (value, COME)), ("drop", value)):
                self.check(ledger, plain, *call)
                if len(ledger.claims_now()) == 4:
                    self.check(ledger, plain, "drop", 3)
        for book in (FRONT, WIDE, ELDER_BOOK):
            for value in variants(book):
                if not model.ok_book(value):
                    self.assertRaises(Wrong, Ledger, value)

    def test_claims_otherwise(self):
        many = [0, 0]
        for claim in (("unbothered",), ("like", COME), ("no ring", FIRST_TO_LATER), ("no ring", (((0, 0), (0, 0), (1, 2)),))):
            for value in variants(claim):
                ledger = Ledger(LEAST)
                good = ok_claim(value)
                many[good] += 1
                if good:
                    self.assertEqual(ledger.keep(value), [])
                    self.assertEqual(ledger.claims_now(), [value])
                else:
                    with self.assertRaises(Wrong) as caught:
                        ledger.keep(value)
                    self.assertEqual(caught.exception.place, 0)
        self.assertGreater(min(many), 30)

    def test_a_great_rulebook(self):
        book = full_book()
        ledger = Ledger(book)
        self.assertEqual(ledger.keep(("unbothered",)), [])
        self.assertEqual(ledger.states_now(), [state_of(book, ("unbothered",))])
        for _ in range(5):
            self.assertEqual(ledger.drop_deed(), [])
        self.assertEqual(ledger.book_now(), (*book[:4], book[4][:1]))

    def test_what_was_told_is_the_callers(self):
        ledger = Ledger(COME_BOOK)
        ledger.keep(("unbothered",))
        ledger.set_deed(1, ((0,), (("first", 0),)))
        ledger.undo()
        before = lasting(told(ledger))
        for _ in range(2):
            spoil(told(ledger))
            self.assertEqual(lasting(told(ledger)), before)
        found = [ledger.redo(), ledger.undo(), ledger.set_begin(0, 0)]
        self.assertTrue(all(type(some) is list for some in found))


if __name__ == "__main__":
    unittest.main()
