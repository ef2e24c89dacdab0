"""What is there while a run is played, and what the statements of a rulebook make of it."""

from ownmoment.books import test_holds
from ownmoment.errors import IsThere, NotLet, NotThere


class Field:
    """Rows, each a list of things; the mark of each thing; the notes (x, y) that are not 0."""

    def __init__(self, rows):
        self.rows = [[] for _ in range(rows)]
        self.marks = {}
        self.notes = {}

    def copied(self):
        """Another field with the same on it."""
        other = Field(0)
        other.rows = [list(row) for row in self.rows]
        other.marks = {x: self.marks[x] for x in self.marks}
        other.notes = {pair: self.notes[pair] for pair in self.notes}
        return other

    def note(self, x, y, note):
        """Makes it the note that x has of y."""
        if note:
            self.notes[(x, y)] = note
        else:
            self.notes.pop((x, y), None)

    def come(self, x, mark):
        """Puts x at the back of each row."""
        for row in self.rows:
            row.append(x)
        self.marks[x] = mark

    def go(self, x):
        """Takes x away, and all that is of it."""
        for row in self.rows:
            row.remove(x)
        del self.marks[x]
        self.notes = {pair: self.notes[pair] for pair in self.notes if x not in pair}


def field_of(stand):
    """The field on which all is as in the stand."""
    field = Field(0)
    field.rows = [list(row) for row in stand[0]]
    field.marks = {x: mark for x, mark in stand[1]}
    field.notes = {(x, y): note for x, y, note in stand[2] if note}
    return field


def stand_of(field):
    """The stand of all that is there."""
    return _stand_with(field, sorted(field.marks), [tuple(row) for row in field.rows])


def cut_of(field, some):
    """The stand cut to some, an ascending tuple of things."""
    kept = {x: True for x in some if x in field.marks}
    return _stand_with(field, list(kept), [tuple([x for x in row if x in kept]) for row in field.rows])


def _stand_with(field, things, rows):
    notes = field.notes
    marks = tuple([(x, field.marks[x]) for x in things])
    return (tuple(rows), marks, tuple([(x, y, notes.get((x, y), 0)) for x in things for y in things if x != y]))


def no_stand(field):
    """What to show in a step whose stand nobody asks for."""
    return None


def can_be_done(book, field, deed, x):
    """Whether (deed, x) can be done here."""
    if deed == 0:
        return x not in field.marks
    if x not in field.marks:
        return False
    return deed == -1 or field.marks[x] in book[4][deed][0]


def refuse(book, field, deed, x):
    """Raises the error of what cannot be done here."""
    if can_be_done(book, field, deed, x):
        return
    if deed == 0:
        raise IsThere(x)
    if x not in field.marks:
        raise NotThere(x)
    raise NotLet(deed, x)


def do_tuple(book, field, deed, x, show):
    """Does what can be done; the steps (place, show(field)) are returned."""
    steps = []
    if deed == -1:
        field.go(x)
        return steps
    if deed == 0:
        field.come(x, book[0][x[0]])
    for at, statement in enumerate(book[4][deed][1]):
        if statement[0] == "if":
            branch = 0 if field.marks[x] in statement[1] else 1
            for inner, chosen in enumerate(statement[2 + branch]):
                _execute(field, x, chosen)
                steps.append(((at, branch, inner), show(field)))
        else:
            _execute(field, x, statement)
            steps.append(((at,), show(field)))
    return steps


def _execute(field, x, statement):
    action = ACTIONS[statement[0]]
    action(field, x, statement)


def _ahead_in(field, row, x):
    """The things ahead of x in the row, as the keys of a dict."""
    order = field.rows[row]
    return {y: True for y in order[:order.index(x)]}


def _ahead_beside(field, row, x):
    """The things ahead of x in the row that is not this one, or None if there is no other row."""
    return _ahead_in(field, 1 - row, x) if len(field.rows) == 2 else None


def _holds(field, test, x, y, ahead):
    """Whether the test holds for x and y, ahead being what is ahead of x in the side row, or None."""
    side = 0
    if ahead is not None:
        side = 1 if y in ahead else 2
    return test_holds(test, field.marks[x], field.marks[y], y[0], field.notes.get((x, y), 0), side)


def _mark(field, x, statement):
    field.marks[x] = statement[1][field.marks[x]]


def _put(row, x, place):
    row.remove(x)
    row.insert(place, x)


def _first(field, x, statement):
    _put(field.rows[statement[1]], x, 0)


def _last(field, x, statement):
    row = field.rows[statement[1]]
    _put(row, x, len(row))


def _up(field, x, statement):
    row = field.rows[statement[1]]
    _put(row, x, max(row.index(x) - 1, 0))


def _down(field, x, statement):
    row = field.rows[statement[1]]
    _put(row, x, row.index(x) + 1)


def _pass(field, x, statement):
    _, moved, test = statement
    row = field.rows[moved]
    ahead = _ahead_beside(field, moved, x)
    place = row.index(x)
    while place > 0 and _holds(field, test, x, row[place - 1], ahead):
        place -= 1
    _put(row, x, place)


def _yield(field, x, statement):
    _, moved, test = statement
    row = field.rows[moved]
    ahead = _ahead_beside(field, moved, x)
    place = row.index(x)
    while place + 1 < len(row) and _holds(field, test, x, row[place + 1], ahead):
        place += 1
    _put(row, x, place)


def _leap(field, x, statement):
    _, moved, test = statement
    row = field.rows[moved]
    ahead = _ahead_beside(field, moved, x)
    fitting = [y for y in row[:row.index(x)] if _holds(field, test, x, y, ahead)]
    if fitting:
        _put(row, x, row.index(fitting[0]))


def _fall(field, x, statement):
    _, moved, test = statement
    row = field.rows[moved]
    ahead = _ahead_beside(field, moved, x)
    fitting = [y for y in row[row.index(x) + 1:] if _holds(field, test, x, y, ahead)]
    if fitting:
        _put(row, x, row.index(fitting[-1]))


def _marks(field, x, statement):
    _, test, table = statement
    ahead = _ahead_in(field, 0, x)
    for y in list(field.rows[0]):
        if y != x and _holds(field, test, x, y, ahead):
            field.marks[y] = table[field.marks[y]]


def _notes(field, x, statement):
    _, test, mine, theirs = statement
    ahead = _ahead_in(field, 0, x)
    for y in list(field.rows[0]):
        if y != x and _holds(field, test, x, y, ahead):
            seen = field.notes.get((y, x), 0)
            field.note(x, y, mine[field.notes.get((x, y), 0)])
            field.note(y, x, theirs[seen])


ACTIONS = {
    "mark": _mark, "first": _first, "last": _last, "up": _up, "down": _down, "pass": _pass, "yield": _yield,
    "leap": _leap, "fall": _fall, "marks": _marks, "notes": _notes,
}
