"""Whether a third thing ever matters between others."""

from ownmoment.books import is_integer, is_thing, is_tuple_of, kinds_in
from ownmoment.field import Field, cut_of, do_tuple, field_of, stand_of
from ownmoment.runs import is_run
from ownmoment.stands import cut_stand, things_in
from ownmoment.tables import can_do, stands_of

POOLS = (((0, 0), (0, 1), (0, 2)), ((0, 0), (0, 1), (1, 0)), ((0, 0), (1, 0), (1, 1)), ((1, 0), (1, 1), (1, 2)))


def bothered_at(book, run, some):
    """The tuple (index, at) by which a run first bothers some things, or None."""
    field = Field(book[2])
    alone = Field(book[2])
    for index, (deed, x) in enumerate(run):
        steps = do_tuple(book, field, deed, x, lambda shown: cut_of(shown, some))
        if x in some:
            at = _first_unlike(steps, do_tuple(book, alone, deed, x, stand_of))
        else:
            at = _first_otherwise(steps, stand_of(alone))
        if at is not None:
            return (index, at)
    return None


def _first_unlike(steps, alone):
    """The least index by which steps are not those alone, or None."""
    for at in range(max(len(steps), len(alone))):
        if steps[at:at + 1] != alone[at:at + 1]:
            return at
    return None


def _first_otherwise(steps, stand):
    """The least index of a step that does not leave the stand as it was, or None."""
    for at, (_, shown) in enumerate(steps):
        if shown != stand:
            return at
    return None


def first_bother(book, run):
    """The tuple (index, some, at) by which a run first bothers one or two things, or None."""
    came = {}
    for index, (_, x) in enumerate(run):
        came.setdefault(x, index)
    things = sorted(came)
    pairs = [(x, y) for x in things for y in things if x < y]
    best = None
    for some in sorted([(x,) for x in things] + pairs):
        known = run if best is None else run[:best[0]]
        found = bothered_at(book, known, some)
        # A set counts from the tuple on in which all of its things have been named.
        if found is not None and all([came[x] <= found[0] for x in some]):
            best = (found[0], some, found[1])
    return best


def bother_of(book):
    """The least run, of three things, that bothers one or two of them, with these and the step, or None."""
    found = [_least_run(book, pool, table) for pool, table in _tables_of(book)]
    runs = [run for run in found if run is not None]
    if not runs:
        return None
    least = min(runs, key=lambda run: (len(run), run))
    _, some, at = first_bother(book, least)
    return (least, some, at)


def is_unbothered(book):
    """Whether no run bothers any things."""
    return a_bothering_run(book) is None


def a_bothering_run(book):
    """A run that bothers some things, not always the least one, or None."""
    for pool, table in _tables_of(book):
        run = _least_run(book, pool, table)
        if run is not None:
            return run
    return None


def _tables_of(book):
    """Each of the pools, with all its stands; all of them are looked for, as some may have too many."""
    pools = [pool for pool in POOLS if all([x[0] < kinds_in(book) for x in pool])]
    return [(pool, stands_of(book, pool)) for pool in pools]


def _least_run(book, pool, table):
    cuts, alone = {}, {}
    for stand, run in table:
        for deed, x in can_do(book, stand, pool):
            # Going has no steps, and so bothers nothing.
            if deed >= 0 and _is_bothering(book, stand, deed, x, cuts, alone):
                return run + [(deed, x)]
    return None


def _is_bothering(book, stand, deed, x, cuts, alone):
    """Whether (deed, x), done at the stand, bothers things of which just one that is there is left out.

    Where no such set is bothered, a smaller one could only be bothered by the run without the thing that
    is left out, which is shorter and has been looked at before. So these sets are enough.
    """
    field = field_of(stand)
    steps = [(place, _cuts_of(step, cuts)) for place, step in do_tuple(book, field, deed, x, stand_of)]
    there = sorted(field.marks)
    for at, out in enumerate(there):
        before = cut_stand(stand, [y for y in there if y != out])
        shown = [(place, step[at]) for place, step in steps]
        if out == x:
            if _first_otherwise(shown, before) is not None:
                return True
        elif shown != _steps_alone(book, before, deed, x, alone):
            return True
    return False


def _cuts_of(stand, cuts):
    """The stand without each of its things in turn. The same stands are asked for again and again."""
    if stand not in cuts:
        there = things_in(stand)
        cuts[stand] = [cut_stand(stand, [y for y in there if y != out]) for out in there]
    return cuts[stand]


def _steps_alone(book, stand, deed, x, alone):
    """The steps of (deed, x) at a stand of fewer things, which is asked for again and again as well."""
    if (stand, deed, x) not in alone:
        alone[(stand, deed, x)] = do_tuple(book, field_of(stand), deed, x, stand_of)
    return alone[(stand, deed, x)]


def is_bother(book, thing):
    """Whether it is a run, things of it that it bothers with its last tuple, and the step by which it does."""
    if not (is_tuple_of(thing, 3) and is_run(book, thing[0]) and is_integer(thing[2])):
        return False
    run, some, at = thing
    named = {x: True for _, x in run}
    if not (isinstance(some, tuple) and len(some) > 0 and all([is_thing(x) and x in named for x in some])):
        return False
    if not all([some[k] < some[k + 1] for k in range(len(some) - 1)]):
        return False
    return bothered_at(book, run, some) == (len(run) - 1, at)
