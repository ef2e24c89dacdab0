"""A player of a rulebook: it does deeds one after the other, and takes them back."""

from ownmoment.books import deeds_in, is_book, is_thing, is_thing_of, is_within
from ownmoment.errors import NotThere, Nothing, Wrong
from ownmoment.field import Field, do_tuple, refuse, stand_of


class Player:
    """Plays a rulebook; nothing is there at first."""

    def __init__(self, book):
        if not is_book(book):
            raise Wrong(0)
        self._book = book
        self._run = []
        # The fields behind 0, 1, 2 .. tuples and the steps of the last of these; a field in it is not changed.
        self._fields = [Field(book[2])]
        self._steps = [[]]

    def __eq__(self, other):
        return isinstance(other, Player) and self._book == other._book and self._run == other._run

    def do(self, deed, thing):
        """Does (deed, thing)."""
        if not is_within(deed, -1, deeds_in(self._book) - 1):
            raise Wrong(0)
        if not is_thing_of(self._book, thing):
            raise Wrong(1)
        field = self._fields[-1].copied()
        refuse(self._book, field, deed, thing)
        steps = do_tuple(self._book, field, deed, thing, stand_of)
        self._run.append((deed, thing))
        self._fields.append(field)
        self._steps.append(steps)

    def last_steps(self):
        """The steps of the last deed."""
        return list(self._steps[-1])

    def stand_now(self):
        """The stand."""
        return stand_of(self._fields[-1])

    def row_now(self, row):
        """The things in a row, the front first."""
        return tuple(self._fields[-1].rows[row])

    def run_done(self):
        """The run so far."""
        return list(self._run)

    def mark_of(self, x):
        """The mark of x."""
        self._check_there(x)
        return self._fields[-1].marks[x]

    def note_of(self, x, y):
        """The note that x has of y."""
        self._check_there(x)
        self._check_there(y)
        return self._fields[-1].notes.get((x, y), 0)

    def undo(self):
        """Takes the last tuple of the run back, and returns it."""
        if not self._run:
            raise Nothing()
        self._fields.pop()
        self._steps.pop()
        return self._run.pop()

    def copied(self):
        """Another player with the same rulebook and run."""
        other = Player(self._book)
        other._run = list(self._run)
        other._fields = list(self._fields)
        other._steps = list(self._steps)
        return other

    def _check_there(self, x):
        if not (is_thing(x) and x in self._fields[-1].marks):
            raise NotThere(x)
