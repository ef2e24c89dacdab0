"""Tables of all stands to which runs of a few things lead."""

from ownmoment.books import deeds_in
from ownmoment.errors import TooMany
from ownmoment.field import Field, can_be_done, do_tuple, field_of, no_stand, stand_of
from ownmoment.stands import is_stand, things_in

MOST_STANDS = 1500


def can_do(book, stand, things):
    """The tuples (deed, thing) of some things that can be done at a stand, ascending."""
    return _doable(book, field_of(stand), things)


def _doable(book, field, things):
    return [(deed, x) for deed in range(-1, deeds_in(book)) for x in things if can_be_done(book, field, deed, x)]


def _stand_behind(book, field, deed, x):
    after = field.copied()
    do_tuple(book, after, deed, x, no_stand)
    return stand_of(after)


def stands_of(book, things):
    """The tuples (stand, run) of the stands to which these things alone come, in the order of the runs."""
    found = [(stand_of(Field(book[2])), [])]
    seen = {found[0][0]: True}
    at = 0
    while at < len(found):
        stand, run = found[at]
        field = field_of(stand)
        for deed, x in _doable(book, field, things):
            after = _stand_behind(book, field, deed, x)
            if after in seen:
                continue
            if len(found) == MOST_STANDS:
                raise TooMany(MOST_STANDS)
            seen[after] = True
            found.append((after, run + [(deed, x)]))
        at += 1
    return found


def is_closed(book, things, stands):
    """Whether it is a list of different stands that has the empty one, and each that follows one of them."""
    if not (isinstance(stands, list) and all([_is_stand_with(book, things, stand) for stand in stands])):
        return False
    listed = {stand: True for stand in stands}
    if len(listed) < len(stands) or stand_of(Field(book[2])) not in listed:
        return False
    for stand in stands:
        field = field_of(stand)
        for deed, x in _doable(book, field, things):
            if _stand_behind(book, field, deed, x) not in listed:
                return False
    return True


def _is_stand_with(book, things, thing):
    return is_stand(book, thing) and all([x in things for x in things_in(thing)])
