"""Twins: two things with one past. They tell by which moment a thing with this past stands."""

from ownmoment.bothers import bother_of
from ownmoment.errors import Bothered
from ownmoment.field import Field, do_tuple, field_of, no_stand, stand_of
from ownmoment.runs import stand_behind
from ownmoment.tables import can_do


def twins_run(kind, past, index):
    """The run in which two things do the same, one moment after the other, at the moment index the other way about."""
    run = []
    for moment, deed in enumerate((0,) + past):
        both = [(deed, (kind, 0)), (deed, (kind, 1))]
        run.extend(both[::-1] if moment == index else both)
    return run


def critical_at(book, row, kind, past):
    """The moment by which a thing with this past stands in the row."""
    check_unbothered(book)
    usual = stand_behind(book, twins_run(kind, past, None))
    return [index for index in range(len(past) + 1)
            if stand_behind(book, twins_run(kind, past, index))[0][row] != usual[0][row]][0]


def live_at(book, row, kind, past):
    """The ascending tuple of the moments by which a thing with this past stands, or will stand, in the row."""
    check_unbothered(book)
    twins = Twins(book, (row,))
    usual = stand_behind(book, twins_run(kind, past, None))
    return tuple([index for index in range(len(past) + 1)
                  if twins.will_part(usual, stand_behind(book, twins_run(kind, past, index)))])


def check_unbothered(book):
    """Raises Bothered unless the rulebook is unbothered."""
    found = bother_of(book)
    if found is not None:
        run, some, at = found
        raise Bothered(run, some, at)


class Twins:
    """What a rulebook makes of the stands of two things, as far as some of the rows are looked at."""

    def __init__(self, book, rows):
        self._book = book
        self._rows = rows
        # The stands behind (stand, deed, thing), and the pairs of stands of twins that stay alike.
        self._behind = {}
        self._never = {}

    def nothing(self):
        """The stand with nothing there."""
        return stand_of(Field(self._book[2]))

    def behind(self, stand, deed, x):
        """The stand behind (deed, x)."""
        if (stand, deed, x) not in self._behind:
            field = field_of(stand)
            do_tuple(self._book, field, deed, x, no_stand)
            self._behind[(stand, deed, x)] = stand_of(field)
        return self._behind[(stand, deed, x)]

    def both_behind(self, stand, deed, x, y):
        """The stand behind (deed, x) and then (deed, y)."""
        return self.behind(self.behind(stand, deed, x), deed, y)

    def deeds_let(self, stand, x):
        """The deeds but coming and going that x may do at the stand."""
        return [deed for deed, _ in can_do(self._book, stand, (x,)) if deed > 0]

    def parted(self, one, other):
        """The rows, of those looked at, that are not the same in two stands."""
        return [row for row in self._rows if one[0][row] != other[0][row]]

    def will_part(self, one, other):
        """Whether one of the rows is not the same in two stands of twins, or will not be behind further deeds."""
        seen = {(one, other): True}
        todo = [(one, other)]
        while todo:
            stand, rival = todo.pop()
            if (stand, rival) in self._never:
                continue
            if self.parted(stand, rival):
                return True
            first, second = [x for x, _ in stand[1]]
            for deed in self.deeds_let(stand, first):
                pair = (self.both_behind(stand, deed, first, second), self.both_behind(rival, deed, first, second))
                if pair not in seen:
                    seen[pair] = True
                    todo.append(pair)
        for pair in seen:
            self._never[pair] = True
        return False
