"""Runs of a rulebook, as lists of tuples (deed, thing)."""

from ownmoment.books import is_run_tuple
from ownmoment.field import Field, can_be_done, do_tuple, no_stand, refuse, stand_of


def is_run(book, thing):
    """Whether it is a run of the rulebook."""
    if not (isinstance(thing, list) and all([is_run_tuple(book, done) for done in thing])):
        return False
    return first_wrong_at(book, thing) is None


def first_wrong_at(book, run):
    """The index of the first tuple that cannot be done, or None."""
    field = Field(book[2])
    for at, (deed, x) in enumerate(run):
        if not can_be_done(book, field, deed, x):
            return at
        do_tuple(book, field, deed, x, no_stand)
    return None


def stand_behind(book, run):
    """The stand behind a run."""
    field = Field(book[2])
    for deed, x in run:
        refuse(book, field, deed, x)
        do_tuple(book, field, deed, x, no_stand)
    return stand_of(field)


def steps_along(book, run):
    """The steps of each tuple of a run, in a list."""
    field = Field(book[2])
    found = []
    for deed, x in run:
        refuse(book, field, deed, x)
        found.append(do_tuple(book, field, deed, x, stand_of))
    return found


def alone_run(run, some):
    """The run without the tuples of things that are none of some."""
    kept = {x: True for x in some}
    return [(deed, x) for deed, x in run if x in kept]
