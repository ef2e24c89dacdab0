"""Lots: which deeds of a rulebook can be had together without a bother."""

from ownmoment.bothers import a_bothering_run
from ownmoment.books import deeds_in, limited_book


def free_lots(book):
    """The greatest lots that are free, ascending."""
    lots, free = _lots_of(book)
    return [lot for lot in lots if lot in free
            and not any([lot != other and other in free and _lies_in(lot, other) for other in lots])]


def bothering_lots(book):
    """The least lots that are not free, ascending."""
    lots, free = _lots_of(book)
    return [lot for lot in lots if lot not in free
            and not any([lot != other and other not in free and _lies_in(other, lot) for other in lots])]


def _lies_in(lot, other):
    return all([deed in other for deed in lot])


def _lots_of(book):
    """All lots, ascending, and the free ones as the keys of a dict."""
    lots = [(0,)]
    for deed in range(1, deeds_in(book)):
        lots = lots + [lot + (deed,) for lot in lots]
    lots = sorted(lots)
    free = {}
    bothering = []
    # The greatest lots first: that of all deeds raises TooMany, and what lies in a free lot is free.
    for lot in sorted(lots, key=lambda some: -len(some)):
        if lot in free or any([_lies_in(least, lot) for least in bothering]):
            continue
        run = a_bothering_run(limited_book(book, lot))
        if run is None:
            for other in lots:
                if _lies_in(other, lot):
                    free[other] = True
        else:
            # The run bothers as well where there are no other deeds than its own.
            bothering.append([0] + [lot[deed] for deed, _ in run if deed > 0])
    return lots, free
