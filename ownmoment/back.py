"""From a machine back to a rulebook.

A thing's mark is its point. The note that x has of y tells how their live moments follow one another: it is
the index of their weaving (0 for a moment of x, 1 for one of y, the earliest first) among all of so many
moments of each, which the marks tell.
"""

from ownmoment.errors import TooMany
from ownmoment.least import least_machine

MOST_POINTS = 5
MOST_LIVE = 2
# As many as may stand in a branch of "if".
MOST_TOGETHER = 6

# The weavings of so many moments of x and of y.
WEAVINGS = {
    (1, 1): ((0, 1), (1, 0)),
    (1, 2): ((0, 1, 1), (1, 0, 1), (1, 1, 0)),
    (2, 1): ((0, 0, 1), (0, 1, 0), (1, 0, 0)),
    (2, 2): ((0, 0, 1, 1), (0, 1, 0, 1), (0, 1, 1, 0), (1, 0, 0, 1), (1, 0, 1, 0), (1, 1, 0, 0)),
}


def book_of(machine):
    """An unbothered rulebook with one row of which the least machine is the machine."""
    begins, points, moves = least_machine(machine)
    if len(points) > MOST_POINTS:
        raise TooMany(MOST_POINTS)
    if any([live > MOST_LIVE for _, live, _ in points]):
        raise TooMany(MOST_LIVE)
    most = max([live for _, live, _ in points])
    notes = len(WEAVINGS[(most, most)])
    deeds = [((), _together(_coming(points, notes) + _leaps(points, begins)))]
    for at in range(len(moves[0])):
        entries = [move[at] for move in moves]
        let = tuple([point for point, entry in enumerate(entries) if entry is not None])
        deeds.append((let, _together(_deed(points, entries, notes))))
    return (begins, len(points), 1, notes, tuple(deeds))


def _together(statements):
    """The statements, as many in one as may be: an "if" without marks executes those of other."""
    return tuple([("if", (), (), tuple(statements[at:at + MOST_TOGETHER]))
                  for at in range(0, len(statements), MOST_TOGETHER)])


def _with_live(points, many):
    """The points with so many live moments."""
    return tuple([point for point, (_, live, _) in enumerate(points) if live == many])


def _coming(points, notes):
    """Makes the notes, which are 0, those of a thing whose one moment is later than all others."""
    found = []
    for many in (1, 2):
        theirs = _with_live(points, many)
        if theirs:
            mine = _filled([WEAVINGS[(1, many)].index((1,) * many + (0,))], notes)
            back = _filled([WEAVINGS[(many, 1)].index((0,) * many + (1,))], notes)
            found.append(("notes", (((), theirs, (), (), 0),), mine, back))
    return found


def _filled(table, notes):
    """The table with a 0 for each note that nothing has."""
    return tuple(table + [0] * (notes - len(table)))


def _deed(points, entries, notes):
    """The statements of a deed: first the notes of the point before, then the point, then the place in the row."""
    found = []
    for point, entry in enumerate(entries):
        if entry is None or entry[1] == tuple(range(points[point][1])):
            continue
        for many in (1, 2):
            theirs = _with_live(points, many)
            if theirs:
                test = (((point,), theirs, (), (), 0),)
                found.append(("notes", test) + _tables(points[point][1], many, entry[1], notes))
    table = tuple([point if entry is None else entry[0] for point, entry in enumerate(entries)])
    behind = sorted({entry[0]: True for entry in entries if entry is not None})
    return found + [("mark", table), ("last", 0)] + _leaps(points, behind)


def _tables(live, many, take, notes):
    """What the notes of x, and those of things with so many live moments, become by what x takes."""
    mine, theirs = [], []
    for weaving in WEAVINGS[(live, many)]:
        mine.append(WEAVINGS[(len(take), many)].index(_taken(weaving, take)))
    for weaving in WEAVINGS[(many, live)]:
        mirrored = _taken(_mirrored(weaving), take)
        theirs.append(WEAVINGS[(many, len(take))].index(_mirrored(mirrored)))
    return (_filled(mine, notes), _filled(theirs, notes))


def _mirrored(weaving):
    return tuple([1 - whose for whose in weaving])


def _taken(weaving, take):
    """The weaving behind a deed of x that takes these of its live moments."""
    found = []
    many = 0
    for whose in weaving:
        if whose == 1 or many in take:
            found.append(whose)
        if whose == 0:
            many += 1
    return tuple(found + [0] if take[-1] == -1 else found)


def _leaps(points, some):
    """Brings a thing that stands at the back and is now at one of the points to its place."""
    different = sorted({point: True for point in some})
    return [("leap", 0, _passed_by(points, point)) for point in different]


def _passed_by(points, point):
    """The test that holds for a thing at the point and each other one that it is to be ahead of."""
    rank, way, at = points[point][0][0]
    live = points[point][1]
    further = tuple([other for other, (stands, _, _) in enumerate(points) if stands[0][0] > rank])
    cases = [((point,), further, (), (), 0)] if further else []
    beside = {}
    for other, (stands, many, _) in enumerate(points):
        if stands[0][0] == rank:
            beside.setdefault((many, stands[0][2]), []).append(other)
    for (many, place), others in sorted(beside.items()):
        seen = tuple([note for note, weaving in enumerate(WEAVINGS[(live, many)])
                      if _is_ahead(weaving, way, at, place)])
        cases.append(((point,), tuple(others), (), seen, 0))
    return tuple(cases)


def _is_ahead(weaving, way, at, place):
    """Whether x, with its moment at, is ahead of y, with its moment place."""
    mine = [k for k, whose in enumerate(weaving) if whose == 0][at]
    theirs = [k for k, whose in enumerate(weaving) if whose == 1][place]
    return mine > theirs if way == "later" else mine < theirs
