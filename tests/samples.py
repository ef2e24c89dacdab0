"""Rulebooks, machines and values that the tests share."""

import random

from ownmoment.errors import MomentError, NotLet, NotThere, Wrong
from ownmoment.player import Player

ALWAYS = ((), (), (), (), 0)

# The rulebooks of the document.
ASK = ((0,), 2, 1, 1, (((), ()), ((0, 1), (
    ("if", (0,), (("first", 0), ("mark", (1, 1))), (("pass", 0, (((), (0, 1), (), (), 0), ((1,), (), (), (), 0))),)),))))
ASK_TEXT = "book 0 marks 2 rows 1 notes 1\ncome\ndeed 0 1\n  if 0\n    first 0\n    mark 1 1\n  else\n    pass 0 theirs=0,1 or mine=1"
SWAP = ((0,), 1, 1, 1, (((), ()), ((0,), (("up", 0),))))
PASS = ((0,), 1, 1, 1, (((), ()), ((0,), (("pass", 0, (ALWAYS,)),))))
FRONT = ((0,), 1, 1, 1, (((), ()), ((0,), (("first", 0),))))
LEAST = ((0,), 1, 1, 1, (((), ()),))

# Each statement, in two rows with two kinds, three marks and two notes.
WIDE = ((0, 2), 3, 2, 2, (
    ((), (("first", 1), ("notes", (((), (), (1,), (), 0),), (1, 1), (0, 0)))),
    ((0, 2), (
        ("mark", (1, 2, 0)),
        ("if", (1, 2), (("up", 0), ("leap", 1, (((0,), (1, 2), (0,), (1,), 1),))),
         (("down", 1), ("fall", 0, (((), (), (), (), 2), ((2,), (), (1,), (), 0))))),
        ("last", 0),
    )),
    ((1,), (
        ("pass", 0, (((), (0, 2), (), (), 1), ((1,), (), (), (0,), 0))),
        ("yield", 1, (((), (), (0, 1), (0, 1), 2),)),
        ("marks", (((), (), (1,), (), 1),), (2, 1, 0)),
        ("notes", (ALWAYS,), (1, 0), (0, 1)),
        ("leap", 0, ()),
    )),
    ((), (("if", (), (), ()),)),
    ((0, 1, 2), ()),
))

# One row, side 1 and 2 where they may be.
NARROW = ((1,), 2, 1, 3, (
    ((), (("marks", (((), (), (), (), 1),), (1, 0)),)),
    ((0, 1), (("notes", (((), (), (), (), 2), ((), (), (), (2,), 1)), (1, 2, 0), (0, 0, 2)), ("fall", 0, (((0,), (), (), (), 0),)))),
    ((1,), (("if", (0, 1), (("yield", 0, ()),), (("first", 0), ("last", 0))), ("pass", 0, (((), (), (), (0, 2), 0),)))),
))

BOOKS = (ASK, SWAP, PASS, FRONT, LEAST, WIDE, NARROW)

# The machine of the document: those that have done the deed are ahead, the later the further.
FRONT_MACHINE = ((0,), ((((1, "earlier", 0),), 1, ()), (((0, "later", 0),), 1, ())), (((1, (-1,)),), ((1, (-1,)),)))

# Two kinds, two rows, labels, three live moments.
WIDE_MACHINE = (
    (0, 3),
    (
        (((2, "earlier", 0), (0, "later", 0)), 1, (0, 0)),
        (((1, "later", 1), (0, "later", 0)), 2, (0, 1)),
        (((1, "later", 2), (3, "earlier", 1)), 3, (0, 0)),
        (((2, "earlier", 0), (3, "earlier", 0)), 1, (1, 2)),
    ),
    (
        ((1, (0, -1)), None, (0, (-1,))),
        ((2, (0, 1, -1)), (0, (1,)), None),
        ((2, (0, 2, -1)), (1, (1, 2)), (0, (-1,))),
        (None, (3, (-1,)), (3, (0,))),
    ),
)

# One kind, one row, no deed but coming and going.
LEAST_MACHINE = ((0,), ((((0, "earlier", 0),), 1, ()),), ((),))

MACHINES = (FRONT_MACHINE, WIDE_MACHINE, LEAST_MACHINE)


def full_book():
    """A rulebook with as many of everything as may be."""
    case = ((0, 1, 2, 3, 4), (0, 1, 2, 3, 4), (0, 1), (0, 1, 2, 3, 4, 5), 2)
    test = (case,) * 6
    marks, notes = (4, 4, 4, 4, 4), (5, 5, 5, 5, 5, 5)
    inner = (("pass", 1, test), ("marks", test, marks), ("notes", test, notes, notes), ("first", 1), ("down", 0),
             ("leap", 0, test))
    statements = (("if", (0, 1, 2, 3, 4), inner, inner),) * 2 + inner
    assert len(statements) == 8
    return ((4, 4), 5, 2, 6, (((), statements),) + (((0, 1, 2, 3, 4), statements),) * 5)


def nested(depth):
    """A list so many deep."""
    value = []
    for _ in range(depth - 1):
        value = [value]
    return value


def any_values():
    """Values of all kinds that a callable has to bear that accepts any."""
    player = Player(SWAP)
    player.do(0, (0, 0))
    return [
        None, True, False, 0, 1, -1, 2, 10 ** 39, -10 ** 39, "", "mark", " \n~", "0.0", (), [], {}, (0,), [0], (0, 0),
        [0, 0], (False, 0), (0, False), (True, 1), (1, True), (0, "0"), ("0", 0), (None, None), ((0, 0),), [(0, 0)], (0, (0, 0)),
        [(0, (0, 0))], {0: 1}, {(0, 0): [1]}, {"a": {}}, (0, 0, 0), ((0, 0), 0), ((), (), ()), ([], [], []), ([[]], [], []),
        (((),), (), ()), MomentError(), NotThere((0, 0)), NotLet([1], {2: 3}), Wrong(0), player, Player(LEAST), (player, player),
        [player], (0, player), (Wrong(0), 0), nested(20), [0] * 19999, ((0, 0),) * 6600, "x" * 19999, {"k": (player, [None])},
        ("if", (), (), ()), (("mark", (0,)),), ((0,), 1, 1, 1), ((0,), 1, 1, 1, ()), [ASK], list(ASK), (ASK,), ASK[4],
    ]


def variants(value):
    """The value with one part otherwise, at each depth, in many ways."""
    yield from _otherwise(value)
    if isinstance(value, (tuple, list)):
        for at, part in enumerate(value):
            for other in variants(part):
                yield type(value)([*value[:at], other, *value[at + 1:]])


def _otherwise(value):
    if isinstance(value, bool) or value is None:
        yield 0
    elif isinstance(value, int):
        yield from (value - 1, value + 1, value + 5, bool(value), True, False, None, str(value), (value,), 10 ** 39, -1)
    elif isinstance(value, str):
        yield from (value + "s", value[:-1], value.upper(), "", "if", "marks", "first", None, 0, (value,), Wrong(0))
    elif isinstance(value, tuple):
        yield from (list(value), value + (None,), value[:-1], value[1:], value + value[-1:], value[:1] + value, value[::-1],
                    None, {}, 0, "", NotThere(0), (value,), value + ((),), value + (0,), value[1:] + value[:1])
    elif isinstance(value, list):
        yield from (tuple(value), value + [None], value[:-1], value[1:], value + value[-1:], value[:1] + value, value[::-1], None)


def lasting(value):
    """A copy that keeps apart what == takes for equal, to tell whether a value was changed."""
    return repr(value)


# Rulebooks, runs and the like by chance, the same ones each time.

def chance_test(chance, kinds, marks, notes, sided):
    def some(limit):
        return tuple(x for x in range(limit) if chance.random() < .5) if chance.random() < .5 else ()
    return tuple((some(marks), some(marks), some(kinds), some(notes), chance.randrange(3) if sided else 0)
                 for _ in range(chance.choice((0, 1, 1, 1, 2, 3))))


def chance_statement(chance, kinds, marks, rows, notes, nested_in=False):
    words = ["mark", "first", "last", "up", "down", "pass", "yield", "leap", "fall", "marks", "notes", "if"]
    word = chance.choice(words[:-1] if nested_in else words)

    def table(many):
        return tuple(chance.randrange(many) for _ in range(many))
    if word == "mark":
        return (word, table(marks))
    if word == "marks":
        return (word, chance_test(chance, kinds, marks, notes, True), table(marks))
    if word == "notes":
        return (word, chance_test(chance, kinds, marks, notes, True), table(notes), table(notes))
    if word == "if":
        branches = [tuple(chance_statement(chance, kinds, marks, rows, notes, True) for _ in range(chance.randrange(3)))
                    for _ in range(2)]
        return (word, tuple(x for x in range(marks) if chance.random() < .5), *branches)
    if word in ("first", "last", "up", "down"):
        return (word, chance.randrange(rows))
    return (word, chance.randrange(rows), chance_test(chance, kinds, marks, notes, rows == 2))


def chance_book(chance, kinds=None, marks=None, rows=None, notes=None, deeds=None, most=3):
    kinds = kinds or chance.choice((1, 2))
    marks = marks or chance.choice((1, 2, 3))
    rows = rows or chance.choice((1, 2))
    notes = notes or chance.choice((1, 2, 3))
    deeds = deeds or chance.choice((2, 3, 4))
    made = []
    for deed in range(deeds):
        let = tuple(x for x in range(marks) if deed and chance.random() < .7)
        statements = tuple(chance_statement(chance, kinds, marks, rows, notes)
                           for _ in range(chance.randrange(deed > 0, most + 1)))
        made.append((let, statements))
    return (tuple(chance.randrange(marks) for _ in range(kinds)), marks, rows, notes, tuple(made))


def chance_books(seed, many, **sizes):
    chance = random.Random(seed)
    return [chance_book(chance, **sizes) for _ in range(many)]


def chance_things(book, many=4):
    return [(kind, number) for kind in range(len(book[0])) for number in (0, 1, 7, 30)][:many]


def chance_run(chance, book, length, things=None):
    """A run of so many tuples, by the model."""
    from tests.model import World, tuples_at
    world = World(book)
    run = []
    while len(run) < length:
        one = chance.choice(tuples_at(world, things or chance_things(book)))
        if one[0] == -1 and chance.random() < .6:
            continue
        world.do(*one)
        run.append(one)
    return run


# Rulebooks that were searched for: so many stands of these things, at most as many as may be.
JUST = (
    (1500, ((0, 0), (0, 1), (1, 0)), ((2, 0), 4, 2, 1, (
        ((), (("pass", 1, ()),)),
        ((0, 1, 3), (("mark", (1, 3, 1, 0)), ("leap", 0, (((), (), (), (), 1), ((), (), (), (), 1), ((), (), (), (0,), 0))))),
        ((2, 3), (("pass", 0, (((0, 1, 3), (), (), (), 2),)), ("mark", (3, 1, 0, 3)))),
        ((0, 2), (("last", 1),)),
    ))),
    (1495, ((0, 0), (0, 1), (0, 2)), ((0,), 2, 1, 2, (
        ((), (("notes", (((), (1,), (), (), 0), ((), (), (), (0, 1), 1)), (0, 0), (0, 1)), ("mark", (0, 0)))),
        ((0,), (("marks", (((), (), (), (1,), 0),), (1, 1)),)),
        ((0, 1), (("notes", (((0, 1), (1,), (0,), (0,), 2), ((), (0, 1), (), (), 0)), (1, 0), (0, 1)),)),
        ((1,), (("fall", 0, (((), (1,), (0,), (), 0), ((0,), (), (0,), (1,), 0), ((1,), (1,), (0,), (), 0))), ("yield", 0, ()))),
    ))),
)
# These have just one stand too many.
JUST_OVER = (
    (((0, 0), (0, 1), (0, 2)), ((4,), 5, 2, 2, (
        ((), ()),
        ((0, 2, 3, 4), (("fall", 0, ()), ("mark", (3, 1, 4, 1, 0)))),
        ((2, 3, 4), (("up", 0), ("marks", (((), (), (), (), 0),), (3, 0, 4, 1, 1)), ("last", 0))),
    ))),
    (((0, 0), (0, 1), (1, 0)), ((1, 0), 2, 1, 2, (
        ((), (("if", (0, 1), (), ()), ("yield", 0, ()))),
        ((0,), (("first", 0), ("pass", 0, ()))),
        ((0, 1), (("down", 0), ("mark", (1, 0)), ("notes", (((), (), (), (), 2), ((), (), (), (), 0)), (1, 1), (0, 1)))),
        ((0, 1), (("first", 0),)),
    ))),
)


def spoil(value):
    """Changes each list in a value."""
    if isinstance(value, (list, tuple)):
        for part in list(value):
            spoil(part)
    if isinstance(value, list):
        value.append("spoiled")
        value.reverse()


def asked(function, *arguments):
    """What the function returns. Its arguments stay as they are, what it returned before was its own, and is the same."""
    before = lasting(arguments)
    first = function(*arguments)
    told = lasting(first)
    spoil(first)
    assert lasting(arguments) == before, "the arguments are not as they were"
    second = function(*arguments)
    assert lasting(second) == told, "what is returned is not the same, or not new"
    assert lasting(arguments) == before, "the arguments are not as they were"
    return second
