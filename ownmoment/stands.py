"""Stands: who stands where in each row, with which mark and which notes of the others."""

from ownmoment.books import is_thing, is_thing_of, is_tuple_of, is_within, sizes_of
from ownmoment.errors import NotThere


def is_stand(book, thing):
    """Whether it is a stand of the rulebook by form."""
    if not is_tuple_of(thing, 3):
        return False
    rows, marks, notes = thing
    _, many_marks, many_rows, many_notes = sizes_of(book)
    if not (is_tuple_of(rows, many_rows) and all([_is_row(book, row) for row in rows])):
        return False
    things = sorted(rows[0])
    if not all([sorted(row) == things for row in rows]):
        return False
    return _are_marks(things, marks, many_marks) and _are_notes(things, notes, many_notes)


def _is_row(book, thing):
    if not (isinstance(thing, tuple) and all([is_thing_of(book, x) for x in thing])):
        return False
    return len(set(thing)) == len(thing)


def _are_marks(things, marks, limit):
    if not is_tuple_of(marks, len(things)):
        return False
    return all([is_tuple_of(entry, 2) and _is_same(entry[0], x) and is_within(entry[1], 0, limit - 1)
                for entry, x in zip(marks, things)])


def _are_notes(things, notes, limit):
    if not is_tuple_of(notes, len(things) * (len(things) - 1)):
        return False
    pairs = [(x, y) for x in things for y in things if x != y]
    return all([is_tuple_of(entry, 3) and _is_same(entry[0], x) and _is_same(entry[1], y)
                and is_within(entry[2], 0, limit - 1) for entry, (x, y) in zip(notes, pairs)])


def _is_same(thing, x):
    # Truths equal 0 and 1, so that to be equal is not enough.
    return is_thing(thing) and thing == x


def things_in(stand):
    """The ascending tuple of the things of a stand."""
    return tuple([x for x, _ in stand[1]])


def mark_in(stand, x):
    """The mark of x."""
    if not _is_in(stand, x):
        raise NotThere(x)
    return [mark for y, mark in stand[1] if y == x][0]


def note_in(stand, x, y):
    """The note that x has of y."""
    if not _is_in(stand, x):
        raise NotThere(x)
    if not _is_in(stand, y):
        raise NotThere(y)
    return [note for one, other, note in stand[2] if one == x and other == y][0]


def is_ahead_in(stand, row, x, y):
    """Whether x is ahead of y in the row."""
    if not _is_in(stand, x):
        raise NotThere(x)
    if not _is_in(stand, y):
        raise NotThere(y)
    return stand[0][row].index(x) < stand[0][row].index(y)


def _is_in(stand, x):
    return is_thing(x) and x in stand[0][0]


def cut_stand(stand, some):
    """The stand with some of its things alone, and the notes of two of them."""
    rows, marks, notes = stand
    kept = {x: True for x in some}
    return (tuple([tuple([x for x in row if x in kept]) for row in rows]),
            tuple([entry for entry in marks if entry[0] in kept]),
            tuple([entry for entry in notes if entry[0] in kept and entry[1] in kept]))
