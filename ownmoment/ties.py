"""Ties: tables on the labels of two things, and on which of them is ahead in each row."""

from ownmoment.books import is_integer, is_tuple_of, is_within
from ownmoment.machines import is_ahead_by
from ownmoment.over import figures_woven, weavings_of

MOST_ENTRIES = 12


def is_tie(rows, thing):
    """Whether it is a tie of machines with so many rows."""
    if not (isinstance(thing, tuple) and len(thing) <= MOST_ENTRIES):
        return False
    return all([_is_entry(rows, entry) for entry in thing])


def _is_entry(rows, thing):
    if not (is_tuple_of(thing, 3) and _is_label(thing[0]) and _is_label(thing[1])):
        return False
    return is_tuple_of(thing[2], rows) and all([is_within(side, 0, 2) for side in thing[2]])


def _is_label(thing):
    return is_tuple_of(thing, 2) and all([is_integer(part) and part >= 0 for part in thing])


def is_tied(machine, tie, one, other):
    """Whether a thing with the figure one is tied to another one with the figure other."""
    return any([all([side == 0 or (side == 1) == is_ahead_by(machine, row, one, other)
                     for row, side in enumerate(sides)])
                for sides in _sides_for(machine, tie, one[0], other[0])])


def _sides_for(machine, tie, one, other):
    """The sides of what is in the tie for the labels of two points."""
    labels = (machine[1][one][2], machine[1][other][2])
    return [sides for mine, theirs, sides in tie if (mine, theirs) == labels]


def ties_among(machine, tie, figures):
    """The tuples (x, y) of things such that x is tied to y, ascending."""
    return [(x, y) for x, one in figures for y, other in figures if x != y and is_tied(machine, tie, one, other)]


def weavings_between(machine, one, other):
    """The weavings of two points, ascending."""
    return weavings_of(machine[1][one][1], machine[1][other][1])


def weaving_by(one, other):
    """The weaving of two figures."""
    moments = [(moment, 0) for moment in one[1]] + [(moment, 1) for moment in other[1]]
    return tuple([whose for _, whose in sorted(moments)])


def tying_weavings(machine, tie, one, other):
    """The weavings of two points with which a thing at the first one is tied to one at the second one, ascending."""
    if not _sides_for(machine, tie, one, other):
        return []
    return [weaving for weaving in weavings_between(machine, one, other)
            if _is_tied_so(machine, tie, (one, other), weaving)]


def _is_tied_so(machine, tie, points, weaving):
    mine, theirs = figures_woven(points, weaving)
    return is_tied(machine, tie, mine, theirs)
