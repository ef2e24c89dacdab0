"""Rulebooks of which the machine is known, by hand. Each is a tuple (rulebook, machine, full machine)."""

LATER, EARLIER = "later", "earlier"
ALWAYS = ((), (), (), (), 0)


def one_row(begins, points, moves):
    """A machine of one row without labels, of points (rank, way, at, live)."""
    return (begins, tuple((((rank, way, at),), live, ()) for rank, way, at, live in points), moves)


def labelled(machine, labels):
    begins, points, moves = machine
    return (begins, tuple((stands, live, label) for (stands, live, _), label in zip(points, labels)), moves)


# First come first: deed 1 does nothing.
COME_BOOK = ((0,), 1, 1, 1, (((), ()), ((0,), ())))
COME = one_row((0,), ((0, EARLIER, 0, 1),), (((0, (0,)),),))

# Last use first.
USE_BOOK = ((0,), 1, 1, 1, (((), (("first", 0),)), ((0,), (("first", 0),))))
USE = one_row((0,), ((0, LATER, 0, 1),), (((0, (-1,)),),))

# Rows sorted by the mark, behind the others with this mark; two kinds begin with other marks.
SORT_BOOK = ((0, 2), 3, 1, 1, (
    ((), (("leap", 0, (((0,), (1, 2), (), (), 0), ((1,), (2,), (), (), 0))),)),
    ((0, 1), (("mark", (1, 2, 2)), ("last", 0), ("leap", 0, (((0,), (1, 2), (), (), 0), ((1,), (2,), (), (), 0))))),
    ((0, 1, 2), (("mark", (0, 0, 0)), ("last", 0), ("leap", 0, (((), (1, 2), (), (), 0),)))),
))
SORT = one_row((0, 1), ((0, EARLIER, 0, 1), (2, EARLIER, 0, 1), (1, EARLIER, 0, 1)),
               (((2, (-1,)), (0, (-1,))), (None, (0, (-1,))), ((1, (-1,)), (0, (-1,)))))

# A thing asks (deed 1), and is later put ahead of all (deed 2), among those put so by who asked first.
ELDER_BOOK = ((0,), 3, 1, 2, (
    ((), ()),
    ((0,), (("mark", (1, 1, 2)), ("notes", (ALWAYS,), (1, 1), (0, 0)))),
    ((1,), (("mark", (0, 2, 2)), ("last", 0), ("leap", 0, (((), (0, 1), (), (), 0), ((), (2,), (), (0,), 0))))),
))
ELDER = one_row((0,), ((1, EARLIER, 0, 1), (1, EARLIER, 0, 2), (0, EARLIER, 0, 1)),
                (((1, (0, -1)), None), (None, (2, (1,))), (None, None)))

# Two rows that are moved apart, each by a deed of its own.
APART_BOOK = ((0,), 1, 2, 1, (((), ()), ((0,), (("first", 0),)), ((0,), (("first", 1),))))
APART_MOVES = (
    ((1, (-1,)), (0, (0,))),
    ((1, (-1,)), (1, (0,))),
)
APART = one_row((0,), ((1, EARLIER, 0, 1), (0, LATER, 0, 1)), APART_MOVES)
APART_FULL = (
    (0,),
    (
        (((1, EARLIER, 0), (1, EARLIER, 0)), 1, (0, 0)),
        (((0, LATER, 1), (1, EARLIER, 0)), 2, (0, 0)),
        (((1, EARLIER, 0), (0, LATER, 1)), 2, (0, 0)),
        (((0, LATER, 0), (0, LATER, 1)), 2, (0, 0)),
        (((0, LATER, 1), (0, LATER, 0)), 2, (0, 0)),
    ),
    (
        ((1, (0, -1)), (2, (0, -1))),
        ((1, (0, -1)), (3, (1, -1))),
        ((4, (1, -1)), (2, (0, -1))),
        ((4, (1, -1)), (3, (0, -1))),
        ((4, (0, -1)), (3, (1, -1))),
    ),
)

# The rank hangs on more than the mark: those that have done deed 1 are ahead, with the same mark as the others.
MORE_BOOK = ((0, 0), 1, 1, 1, (
    ((), ()),
    ((0,), (("first", 0),)),
))
MORE = one_row((0, 0), ((1, EARLIER, 0, 1), (0, LATER, 0, 1)), (((1, (-1,)),), ((1, (-1,)),)))

# Each kind stands for itself: the first one by its last deed, the second one by its coming, behind it.
KINDS_BOOK = ((0, 1), 2, 1, 1, (
    ((), (("if", (0,), (("first", 0),), ()),)),
    ((0, 1), (("if", (0,), (("first", 0),), (("last", 0),)),)),
))
KINDS = one_row((0, 1), ((0, LATER, 0, 1), (1, EARLIER, 0, 1)), (((0, (-1,)),), ((1, (-1,)),)))

# A mark that nothing shows, and a deed that is never let.
BLIND_BOOK = ((0,), 2, 1, 2, (
    ((), (("mark", (1, 0)),)),
    ((0, 1), (("mark", (1, 0)), ("notes", (ALWAYS,), (1, 1), (0, 0)))),
    ((), (("first", 0),)),
))
BLIND = one_row((0,), ((0, EARLIER, 0, 1),), (((0, (0,)), None),))
BLIND_FULL = ((0,), ((((0, EARLIER, 0),), 1, (0, 1)), (((0, EARLIER, 0),), 1, (0, 0))), (((1, (0,)), None), ((0, (0,)), None)))

KNOWN = (
    (COME_BOOK, COME, labelled(COME, [(0, 0)])),
    (USE_BOOK, USE, labelled(USE, [(0, 0)])),
    (SORT_BOOK, SORT, None),
    (ELDER_BOOK, ELDER, labelled(ELDER, [(0, 0), (0, 1), (0, 2)])),
    (APART_BOOK, APART, APART_FULL),
    (MORE_BOOK, MORE, None),
    (KINDS_BOOK, KINDS, labelled(KINDS, [(0, 0), (1, 1)])),
    (BLIND_BOOK, BLIND, BLIND_FULL),
)


def wide_book(kinds):
    """Three moments count, in two rows: 34 points for each kind, and fewer for the shown row alone."""
    later = ("notes", (((), (1, 2), (), (), 0),), (1, 1), (0, 0))
    return ((0,) * kinds, 3, 2, 2, (
        ((), ()),
        ((0, 1), (("first", 0), ("fall", 0, (((), (2,), (), (), 0),)))),
        ((0, 1), (("last", 0),)),
        ((0, 1), (("first", 1),)),
        ((0, 1), (("if", (0,), (("mark", (1, 1, 2)), later), (("last", 1),)),)),
        ((1,), (("mark", (0, 2, 2)), ("last", 0), ("leap", 0, (((), (0, 1), (), (), 0), ((), (2,), (), (0,), 0))))),
    ))
