"""Doubts: logs of which it is not known whether some of their tuples were done."""

from ownmoment.errors import TooMany
from ownmoment.machines import can_lead, is_ahead_by, lead, row_by

MOST_ROWS = 1000


def choices_many(machine, log, doubtful):
    """How many choices there are."""
    return len(_choices(machine, log, doubtful))


def rows_in_doubt(machine, log, doubtful, row):
    """The rows behind the choices, ascending, each once."""
    rows = {tuple(row_by(machine, row, figures)): True for _, figures in _choices(machine, log, doubtful)}
    if len(rows) > MOST_ROWS:
        raise TooMany(MOST_ROWS)
    return sorted(rows)


def choice_for_row(machine, log, doubtful, row, things):
    """A choice with the most members behind which the row is things, or None."""
    found = [choice for choice, figures in _choices(machine, log, doubtful) if row_by(machine, row, figures) == things]
    return max(found, key=len) if found else None


def ahead_in_doubt(machine, log, doubtful, row, x, y):
    """Behind how many choices x is ahead of y, y ahead of x, and not both are there."""
    first = second = neither = 0
    for _, figures in _choices(machine, log, doubtful):
        there = {z: figure for z, figure in figures}
        if x not in there or y not in there:
            neither += 1
        elif is_ahead_by(machine, row, there[x], there[y]):
            first += 1
        else:
            second += 1
    return (first, second, neither)


def _choices(machine, log, doubtful):
    """Tuples (choice, figures behind it) of all choices. What the things do does not hang on one another."""
    found = [((), [])]
    for x in sorted({z: True for _, z in log}):
        ways = _own_choices(machine, log, doubtful, x)
        found = [(choice + some, figures + own) for choice, figures in found for some, own in ways]
    return [(sorted(choice), figures) for choice, figures in found]


def _own_choices(machine, log, doubtful, x):
    """Tuples (those of its doubtful tuples that were done, its figures behind them) of all choices of one thing."""
    # The things as they may be so far; a moment is the index in the whole log, which tells the order as well.
    found = [((), {})]
    for index, (deed, z) in enumerate(log):
        if z != x:
            continue
        further = list(found) if index in doubtful else []
        for some, there in found:
            if can_lead(machine, there, deed, x):
                after = {y: there[y] for y in there}
                lead(machine, after, deed, x, index)
                further.append((some + (index,) if index in doubtful else some, after))
        found = further
    return [(some, [(y, there[y]) for y in there]) for some, there in found]
