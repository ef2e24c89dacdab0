"""Lanes: rows in any order, in which neighbours that stand wrongly change places."""

from ownmoment.books import is_integer
from ownmoment.errors import NoIndex, Wrong
from ownmoment.machines import lead, place_by
from ownmoment.store import check_tuple, many_below, refuse_tuple


class Lane:
    """Things in any order, with figures of a machine by row 0 of which they should stand."""

    def __init__(self, machine, figures, order):
        self._machine = machine
        self._figures = {x: figure for x, figure in figures}
        self._order = list(order)
        moments = [moment for _, (_, times) in figures for moment in times]
        self._now = max(moments) + 1 if moments else 0

    def row(self):
        """The things as they stand."""
        return list(self._order)

    def wrong_at(self):
        """The indexes of the things that should be behind the next one, ascending."""
        return [index for index in range(len(self._order) - 1) if self._is_wrong(index)]

    def many_wrong(self):
        """The number of pairs of things that stand the other way about than they should."""
        many = 0
        ahead = []
        for x in self._order:
            place = self._place(x)
            below = many_below(ahead, place)
            many += len(ahead) - below
            ahead.insert(below, place)
        return many

    def turn(self, index):
        """Has the things with this index and the next one change places."""
        if not is_integer(index):
            raise Wrong(0)
        if not (0 <= index < len(self._order) - 1 and self._is_wrong(index)):
            raise NoIndex(index)
        self._swap(index)

    def settle(self):
        """Turns at the least index for as long as there is one, and returns the indexes."""
        turned = []
        index = 0
        while index < len(self._order) - 1:
            if self._is_wrong(index):
                self._swap(index)
                turned.append(index)
                # Up to here nothing was wrong: now it may be with the thing ahead alone.
                index = max(index - 1, 0)
            else:
                index += 1
        return turned

    def do(self, deed, thing):
        """Does (deed, thing) where the thing stands; it comes at the back."""
        check_tuple(self._machine, deed, thing)
        refuse_tuple(self._machine, self._figures, deed, thing)
        lead(self._machine, self._figures, deed, thing, self._now)
        self._now += 1
        if deed == 0:
            self._order.append(thing)
        elif deed == -1:
            self._order.remove(thing)

    def figures(self):
        """The things with their figures, ascending."""
        return [(x, self._figures[x]) for x in sorted(self._figures)]

    def copied(self):
        """Another lane with the same in it."""
        other = Lane(self._machine, self.figures(), self._order)
        # Tuples of things that went count as well.
        other._now = self._now
        return other

    def _place(self, x):
        return place_by(self._machine, 0, self._figures[x])

    def _is_wrong(self, index):
        return self._place(self._order[index + 1]) < self._place(self._order[index])

    def _swap(self, index):
        self._order[index:index + 2] = [self._order[index + 1], self._order[index]]


def turns_by(machine, run, stops):
    """The number of turns in a lane that does the run, and settles behind each tuple of stops and at the end."""
    lane = Lane(machine, [], [])
    many = 0
    for index, (deed, x) in enumerate(run):
        lane.do(deed, x)
        if index in stops:
            many += len(lane.settle())
    return many + len(lane.settle())
