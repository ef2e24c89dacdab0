"""A run of a machine that can be changed anywhere, long after it was done."""

from ownmoment.books import is_integer, is_thing
from ownmoment.errors import NoIndex, NotLet, Nothing, Wrong
from ownmoment.machines import figures_of, first_barred, is_deed_of, is_machine, is_thing_led, row_by


class Past:
    """A run of a machine; it begins empty."""

    def __init__(self, machine):
        if not is_machine(machine):
            raise Wrong(0)
        self._machine = machine
        self._log = []
        # The changes that undo takes back, and those that redo does again: (index, tuple, whether it was put in).
        self._changes = []
        self._undone = []

    def put_in(self, index, deed, thing):
        """Makes (deed, thing) the tuple of this index; the places of the thing before and behind are returned."""
        if not is_integer(index):
            raise Wrong(0)
        if not is_deed_of(self._machine, deed):
            raise Wrong(1)
        if not is_thing_led(self._machine, thing):
            raise Wrong(2)
        if not 0 <= index <= len(self._log):
            raise NoIndex(index)
        return self._change(index, (deed, thing), True)

    def take_out(self, index):
        """Takes the tuple of this index out; the places of its thing before and behind are returned."""
        if not is_integer(index):
            raise Wrong(0)
        if not 0 <= index < len(self._log):
            raise NoIndex(index)
        return self._change(index, self._log[index], False)

    def undo(self):
        """Takes the last change back."""
        if not self._changes:
            raise Nothing()
        index, done, is_put = self._changes.pop()
        self._log = _changed(self._log, index, done, not is_put)
        self._undone.append((index, done, is_put))

    def redo(self):
        """Does the change again that was taken back last."""
        if not self._undone:
            raise Nothing()
        index, done, is_put = self._undone.pop()
        self._log = _changed(self._log, index, done, is_put)
        self._changes.append((index, done, is_put))

    def log(self):
        """The tuples of the run."""
        return list(self._log)

    def row(self):
        """The things in the row behind the run, the front first."""
        return row_by(self._machine, 0, self.figures())

    def figures(self):
        """The things that are there with their figures, ascending."""
        return figures_of(self._machine, self._log)

    def indexes_of(self, thing):
        """The indexes of the tuples of a thing that is there, since it came last, ascending."""
        if not is_thing(thing):
            raise Wrong(0)
        found = []
        for index, (deed, x) in enumerate(self._log):
            if x == thing and deed == -1:
                found = []
            elif x == thing:
                found.append(index)
        return found

    def _change(self, index, done, is_put):
        log = _changed(self._log, index, done, is_put)
        barred = first_barred(self._machine, log)
        if barred is not None:
            deed, thing = log[barred]
            raise NotLet(deed, thing)
        before = self._place_of(done[1])
        self._log = log
        self._changes.append((index, done, is_put))
        self._undone = []
        return (before, self._place_of(done[1]))

    def _place_of(self, thing):
        """The index of the thing in the row, or None."""
        row = self.row()
        return row.index(thing) if thing in row else None


def _changed(log, index, done, is_put):
    """The log with the tuple put in at the index, or without it."""
    return log[:index] + [done] + log[index:] if is_put else log[:index] + log[index + 1:]
