"""From a rulebook to the machine that sorts its rows."""

from ownmoment.books import deeds_in, kinds_in, own_marks
from ownmoment.errors import TooMany
from ownmoment.least import least_machine
from ownmoment.machines import row_machine
from ownmoment.stands import is_ahead_in, mark_in
from ownmoment.twins import Twins, check_unbothered

MOST_LIVE = 3
MOST_POINTS = 40


def machine_of(book):
    """The least machine of an unbothered rulebook for its shown row."""
    return _checked(_least_of(book, 1, False))


def full_machine(book):
    """The least machine of an unbothered rulebook for all its rows, with labels (kind, mark)."""
    return _checked(_least_of(book, book[2], True))


def is_machine_of(book, machine):
    """Whether a machine of one row is that of the rulebook for its shown row."""
    return _least_of(book, 1, False) == least_machine(row_machine(machine, 0))


def _checked(machine):
    if any([live > MOST_LIVE for _, live, _ in machine[1]]):
        raise TooMany(MOST_LIVE)
    if len(machine[1]) > MOST_POINTS:
        raise TooMany(MOST_POINTS)
    return machine


def _least_of(book, rows, is_labelled):
    """The least machine for so many of the rows, however many live moments and points it has."""
    check_unbothered(book)
    twins = Twins(book, tuple(range(rows)))
    states, moves = _states_of(book, twins)
    ranks = [_ranks_of(states, row) for row in range(rows)]
    points = []
    for at, (kind, _, usual, swapped) in enumerate(states):
        stands = [(ranks[row][at],) + _way_and_place(row, kind, usual, swapped) for row in range(rows)]
        label = (kind, mark_in(usual, (kind, 0))) if is_labelled else ()
        points.append((tuple(stands), len(swapped), label))
    return least_machine((tuple(range(kinds_in(book))), tuple(points), tuple(moves)))


def _way_and_place(row, kind, usual, swapped):
    """How a row goes by the moments of twins, and by which of the live ones they stand."""
    way = "earlier" if is_ahead_in(usual, row, (kind, 0), (kind, 1)) else "later"
    return (way, [stand[0][row] != usual[0][row] for stand in swapped].index(True))


def _states_of(book, twins):
    """The states to which things come, those of coming first, and for each of them its moves.

    A state is a tuple (kind, guests, usual, swapped): for each (kind, mark) the stand of a thing in the
    company of one that came before with this mark, and the stands of twins, usual with all moments one
    way about, swapped with each one of the live moments the other way about.
    """
    states = [_state_of_coming(book, twins, kind) for kind in range(kinds_in(book))]
    number = {state: at for at, state in enumerate(states)}
    moves = []
    while len(moves) < len(states):
        state = states[len(moves)]
        let = twins.deeds_let(state[2], (state[0], 0))
        move = []
        for deed in range(1, deeds_in(book)):
            if deed not in let:
                move.append(None)
                continue
            behind, take = _state_behind(twins, state, deed)
            if behind not in number:
                number[behind] = len(states)
                states.append(behind)
            move.append((number[behind], take))
        moves.append(tuple(move))
    return states, moves


def _state_of_coming(book, twins, kind):
    guests = []
    for guest, mark in own_marks(book):
        y = (guest, 1)
        alone = (((y,),) * book[2], ((y, mark),), ())
        guests.append(twins.behind(alone, 0, (kind, 0)))
    first, second = (kind, 0), (kind, 1)
    usual = twins.both_behind(twins.nothing(), 0, first, second)
    return (kind, tuple(guests), usual, (twins.both_behind(twins.nothing(), 0, second, first),))


def _state_behind(twins, state, deed):
    """The state behind a deed, and which of the live moments before each of its live moments was."""
    kind, guests, usual, swapped = state
    first, second = (kind, 0), (kind, 1)
    behind = twins.both_behind(usual, deed, first, second)
    # Each moment may still be live: those that were, and the one of this deed, with the twins swapped.
    kept = [(at, twins.both_behind(stand, deed, first, second)) for at, stand in enumerate(swapped)]
    kept.append((-1, twins.both_behind(usual, deed, second, first)))
    live = [(at, stand) for at, stand in kept if twins.will_part(behind, stand)]
    further = tuple([twins.behind(stand, deed, first) for stand in guests])
    return (kind, further, behind, tuple([stand for _, stand in live])), tuple([at for at, _ in live])


def _ranks_of(states, row):
    """The rank of each state in the row.

    Of two things one is of a class further ahead if it is ahead whichever of them came behind all deeds of
    the other one; how it stands behind another one's deeds hangs on the mark alone that this one then has.
    """
    signs = [_sign_of(state, row) for state in states]
    different = sorted({sign: True for sign in signs})
    many_ahead = {sign: len([other for other in different if _is_before(other, sign)]) for sign in different}
    ranks = sorted({many: True for many in many_ahead.values()})
    return [ranks.index(many_ahead[sign]) for sign in signs]


def _sign_of(state, row):
    """The kind and the mark of a thing, and the marks of those that came before it that it is ahead of."""
    kind, guests, usual, _ = state
    passed = []
    for stand in guests:
        y, mark = [entry for entry in stand[1] if entry[0][1] == 1][0]
        if is_ahead_in(stand, row, (kind, 0), y):
            passed.append((y[0], mark))
    return (kind, mark_in(usual, (kind, 0)), tuple(passed))


def _is_before(one, other):
    """Whether things of the first sign are ahead of those of the second one, whatever the moments are."""
    return other[:2] in one[2] and one[:2] not in other[2]
