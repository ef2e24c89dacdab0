"""A ledger: a rulebook that is changed, and claims of it that are kept."""

from ownmoment.alike import are_alike
from ownmoment.books import deeds_in, is_book, is_tuple_of, is_within, kinds_in
from ownmoment.bothers import is_unbothered
from ownmoment.compiler import full_machine, machine_of
from ownmoment.errors import Bothered, Nothing, TooMany, Unlike, Wrong
from ownmoment.machines import is_machine, machine_rows
from ownmoment.rings import ring_of
from ownmoment.ties import is_tie

MOST_CLAIMS = 4
MOST_DEEDS = 6


class Ledger:
    """A rulebook and kept claims; none at first."""

    def __init__(self, book):
        if not is_book(book):
            raise Wrong(0)
        # A page is a tuple (judge of the rulebook, claims, their states). Those of the deeds that were done, as it
        # was ahead of each, and those of the deeds that were undone, as it was behind each: tuples (deed, page).
        self._page = (Judge(book), (), ())
        self._done = []
        self._undone = []

    def set_begin(self, kind, mark):
        """Gives a kind this mark to begin with."""
        book = self.book_now()
        if not is_within(kind, 0, kinds_in(book) - 1):
            raise Wrong(0)
        if not is_within(mark, 0, book[1] - 1):
            raise Wrong(1)
        return self._set(("set_begin", kind, mark), _with_part(book, 0, _with_part(book[0], kind, mark)))

    def set_deed(self, deed, entry):
        """Puts a deed in the place of another one, or behind all."""
        book = self.book_now()
        if not is_within(deed, 0, min(deeds_in(book), MOST_DEEDS - 1)):
            raise Wrong(0)
        changed = _with_part(book, 4, _with_part(book[4], deed, entry))
        if not is_book(changed):
            raise Wrong(1)
        return self._set(("set_deed", deed, entry), changed)

    def drop_deed(self):
        """Takes out the last deed."""
        book = self.book_now()
        if deeds_in(book) == 1:
            raise Nothing()
        return self._set(("drop_deed",), _with_part(book, 4, book[4][:-1]))

    def keep(self, claim):
        """Keeps a claim behind the others."""
        if not _is_claim(claim):
            raise Wrong(0)
        judge, claims, states = self._page
        if len(claims) == MOST_CLAIMS:
            raise TooMany(MOST_CLAIMS)
        return self._do(("keep", claim), (judge, claims + (claim,), states + (judge.state(claim),)))

    def drop(self, index):
        """Drops the kept claim with this index."""
        judge, claims, states = self._page
        if not is_within(index, 0, len(claims) - 1):
            raise Wrong(0)
        page = (judge, claims[:index] + claims[index + 1:], states[:index] + states[index + 1:])
        return self._do(("drop", index), page)

    def undo(self):
        """Undoes the last deed."""
        if not self._done:
            raise Nothing()
        deed, page = self._done.pop()
        self._undone.append((deed, self._page))
        return self._turned_to(page)

    def redo(self):
        """Does the deed again that was undone last."""
        if not self._undone:
            raise Nothing()
        deed, page = self._undone.pop()
        self._done.append((deed, self._page))
        return self._turned_to(page)

    def book_now(self):
        """The rulebook."""
        return self._page[0].book

    def claims_now(self):
        """The kept claims."""
        return list(self._page[1])

    def states_now(self):
        """The states of the kept claims."""
        return list(self._page[2])

    def deeds_done(self):
        """The deeds that were done and not undone, each a tuple of its name and its arguments."""
        return [deed for deed, _ in self._done]

    def many_undone(self):
        """How many deeds can be done again."""
        return len(self._undone)

    def _set(self, deed, book):
        """Does a deed by which the rulebook becomes this one."""
        claims = self._page[1]
        if book == self.book_now():
            return self._do(deed, self._page)
        judge = Judge(book)
        return self._do(deed, (judge, claims, tuple([judge.state(claim) for claim in claims])))

    def _do(self, deed, page):
        """Does a deed that leads to the page."""
        self._done.append((deed, self._page))
        self._undone = []
        return self._turned_to(page)

    def _turned_to(self, page):
        """Turns to the page; the indexes of the claims that were so and are not any more are returned."""
        book, states = self.book_now(), self._page[2]
        self._page = page
        if self.book_now() == book:
            return []
        return [index for index, state in enumerate(states) if state is True and page[2][index] is not True]


class Judge:
    """Tells the states of claims of a rulebook, each machine of which is made but once."""

    def __init__(self, book):
        self.book = book
        self._made = {}

    def state(self, claim):
        """Whether the claim is so of the rulebook, None if there is too much to be told."""
        if claim[0] not in self._made:
            self._made[claim[0]] = _made_for(self.book, claim[0])
        made = self._made[claim[0]]
        if claim[0] == "unbothered" or made is None or made is False:
            return made
        try:
            if claim[0] == "like":
                return are_alike(made, claim[1])
            return is_tie(machine_rows(made), claim[1]) and ring_of(made, claim[1]) is None
        except TooMany:
            return None
        except Unlike:
            return False


def _made_for(book, name):
    """The machine that claims of this name ask for, or what all of them come to, whatever else is in them."""
    try:
        if name == "unbothered":
            return is_unbothered(book)
        return machine_of(book) if name == "like" else full_machine(book)
    except TooMany:
        return None
    except Bothered:
        return False


def _with_part(parts, at, part):
    """The tuple with another part, or one part more."""
    return parts[:at] + (part,) + parts[at + 1:]


def _is_claim(thing):
    if is_tuple_of(thing, 1):
        return _is_word(thing[0], "unbothered")
    if not is_tuple_of(thing, 2):
        return False
    if _is_word(thing[0], "like"):
        return is_machine(thing[1])
    return _is_word(thing[0], "no ring") and (is_tie(1, thing[1]) or is_tie(2, thing[1]))


def _is_word(thing, word):
    return isinstance(thing, str) and thing == word
