"""Rulebooks: what is one, what stands in it, and rulebooks that are made of a rulebook."""

from ownmoment.errors import NoIndex, TooMany

MOST_MARKS = 5
MOST_ROWS = 2
MOST_NOTES = 6
MOST_KINDS = 2
MOST_DEEDS = 6
MOST_STATEMENTS = 8
MOST_INNER = 6
MOST_CASES = 6
GREATEST_NUMBER = 9999

# How many parts a statement with this word has, the word counted.
LENGTHS = {
    "mark": 2, "first": 2, "last": 2, "up": 2, "down": 2, "pass": 3, "yield": 3,
    "leap": 3, "fall": 3, "marks": 3, "notes": 4, "if": 4,
}

MIRRORED = {
    "first": "last", "last": "first", "up": "down", "down": "up",
    "pass": "yield", "yield": "pass", "leap": "fall", "fall": "leap",
}


def is_integer(thing):
    """Whether it is an int that is no truth."""
    return isinstance(thing, int) and not isinstance(thing, bool)


def is_within(thing, low, high):
    """Whether it is an integer from low to high."""
    return is_integer(thing) and low <= thing <= high


def is_tuple_of(thing, many):
    """Whether it is a tuple with so many parts."""
    return isinstance(thing, tuple) and len(thing) == many


def is_thing(thing):
    """Whether it is a thing (kind, number)."""
    if not is_tuple_of(thing, 2):
        return False
    return is_within(thing[0], 0, MOST_KINDS - 1) and is_within(thing[1], 0, GREATEST_NUMBER)


def is_thing_of(book, thing):
    """Whether it is a thing of a kind of the rulebook."""
    return is_thing(thing) and thing[0] < kinds_in(book)


def is_run_tuple(book, thing):
    """Whether it is a tuple (deed, thing) such as may stand in a run of the rulebook."""
    if not is_tuple_of(thing, 2):
        return False
    return is_within(thing[0], -1, deeds_in(book) - 1) and is_thing_of(book, thing[1])


def is_book(thing):
    """Whether it is a rulebook."""
    if not is_tuple_of(thing, 5):
        return False
    begin, marks, rows, notes, deeds = thing
    if not (is_within(marks, 1, MOST_MARKS) and is_within(rows, 1, MOST_ROWS) and is_within(notes, 1, MOST_NOTES)):
        return False
    if not (isinstance(begin, tuple) and 1 <= len(begin) <= MOST_KINDS and _are_below(begin, marks)):
        return False
    if not (isinstance(deeds, tuple) and 1 <= len(deeds) <= MOST_DEEDS):
        return False
    sizes = (len(begin), marks, rows, notes)
    return all([_is_deed(sizes, deed) for deed in deeds]) and deeds[0][0] == ()


def is_test(book, thing):
    """Whether it is a test with marks, kinds and notes of the rulebook."""
    return _is_test(sizes_of(book), thing, True)


def sizes_of(book):
    """How many kinds, marks, rows and notes there are."""
    return (len(book[0]), book[1], book[2], book[3])


def _are_below(numbers, limit):
    return all([is_within(number, 0, limit - 1) for number in numbers])


def _is_table(thing, many):
    return is_tuple_of(thing, many) and _are_below(thing, many)


def _is_ascending(thing, limit):
    if not (isinstance(thing, tuple) and _are_below(thing, limit)):
        return False
    return all([thing[at] < thing[at + 1] for at in range(len(thing) - 1)])


def _is_deed(sizes, thing):
    if not is_tuple_of(thing, 2):
        return False
    return _is_ascending(thing[0], sizes[1]) and _are_statements(sizes, thing[1], MOST_STATEMENTS, True)


def _are_statements(sizes, thing, most, may_branch):
    if not (isinstance(thing, tuple) and len(thing) <= most):
        return False
    return all([_is_statement(sizes, statement, may_branch) for statement in thing])


def _is_statement(sizes, thing, may_branch):
    if not (isinstance(thing, tuple) and len(thing) > 0 and isinstance(thing[0], str)):
        return False
    word = thing[0]
    if LENGTHS.get(word) != len(thing):
        return False
    _, marks, rows, notes = sizes
    if word == "if":
        return may_branch and _is_ascending(thing[1], marks) and all(
            [_are_statements(sizes, branch, MOST_INNER, False) for branch in thing[2:]])
    if word == "mark":
        return _is_table(thing[1], marks)
    if word == "marks":
        return _is_test(sizes, thing[1], True) and _is_table(thing[2], marks)
    if word == "notes":
        return _is_test(sizes, thing[1], True) and _is_table(thing[2], notes) and _is_table(thing[3], notes)
    if not is_within(thing[1], 0, rows - 1):
        return False
    return len(thing) == 2 or _is_test(sizes, thing[2], rows == 2)


def _is_test(sizes, thing, has_side_row):
    if not (isinstance(thing, tuple) and len(thing) <= MOST_CASES):
        return False
    return all([_is_case(sizes, case, has_side_row) for case in thing])


def _is_case(sizes, thing, has_side_row):
    if not is_tuple_of(thing, 5):
        return False
    kinds, marks, _, notes = sizes
    mine, theirs, some, seen, side = thing
    if not (_is_ascending(mine, marks) and _is_ascending(theirs, marks)):
        return False
    if not (_is_ascending(some, kinds) and _is_ascending(seen, notes)):
        return False
    return is_within(side, 0, 2 if has_side_row else 0)


def kinds_in(book):
    """How many kinds there are."""
    return len(book[0])


def deeds_in(book):
    """How many deeds there are, coming counted."""
    return len(book[4])


def let_by(book, deed):
    """The marks at which a thing may do the deed."""
    if not is_within(deed, 0, deeds_in(book) - 1):
        raise NoIndex(deed)
    return book[4][deed][0]


def statements_by(book, deed):
    """The statements of the deed."""
    if not is_within(deed, 0, deeds_in(book) - 1):
        raise NoIndex(deed)
    return book[4][deed][1]


def test_holds(test, mine, theirs, kind, seen, side):
    """Whether one of the cases of a test fits two things; side tells where the other one is."""
    for my_marks, their_marks, kinds, notes, wanted in test:
        if ((not my_marks or mine in my_marks) and (not their_marks or theirs in their_marks)
                and (not kinds or kind in kinds) and (not notes or seen in notes)
                and (wanted == 0 or wanted == side)):
            return True
    return False


def own_marks(book):
    """The tuples (kind, mark) that a thing can have that is alone."""
    found = {}
    for kind in range(kinds_in(book)):
        todo = [_own_mark_behind(statements_by(book, 0), book[0][kind])]
        while todo:
            mark = todo.pop()
            if (kind, mark) in found:
                continue
            found[(kind, mark)] = True
            todo.extend([_own_mark_behind(statements, mark) for let, statements in book[4] if mark in let])
    return sorted(found)


def _own_mark_behind(statements, mark):
    for statement in statements:
        if statement[0] == "mark":
            mark = statement[1][mark]
        elif statement[0] == "if":
            mark = _own_mark_behind(statement[2] if mark in statement[1] else statement[3], mark)
    return mark


def limited_book(book, some):
    """The rulebook with some of its deeds alone."""
    begin, marks, rows, notes, deeds = book
    return (begin, marks, rows, notes, tuple([deeds[deed] for deed in some]))


def with_marks(book, table):
    """The rulebook with the mark table[m] in the place of each mark m."""
    begin, marks, rows, notes, deeds = book
    named = [(_renamed(let, table), _all_with_marks(statements, table)) for let, statements in deeds]
    return (tuple([table[mark] for mark in begin]), marks, rows, notes, tuple(named))


def _renamed(marks, table):
    return tuple(sorted([table[mark] for mark in marks]))


def _renamed_table(old, table):
    new = [0] * len(old)
    for mark in range(len(old)):
        new[table[mark]] = table[old[mark]]
    return tuple(new)


def _all_with_marks(statements, table):
    return tuple([_one_with_marks(statement, table) for statement in statements])


def _one_with_marks(statement, table):
    word = statement[0]
    if word == "mark":
        return (word, _renamed_table(statement[1], table))
    if word == "if":
        return (word, _renamed(statement[1], table), _all_with_marks(statement[2], table),
                _all_with_marks(statement[3], table))
    if word == "marks":
        return (word, _test_with_marks(statement[1], table), _renamed_table(statement[2], table))
    if word == "notes":
        return (word, _test_with_marks(statement[1], table), statement[2], statement[3])
    if len(statement) == 3:
        return (word, statement[1], _test_with_marks(statement[2], table))
    return statement


def _test_with_marks(test, table):
    return tuple([(_renamed(mine, table), _renamed(theirs, table), kinds, seen, side)
                  for mine, theirs, kinds, seen, side in test])


def mirrored_book(book):
    """The rulebook behind whose runs the rows are reversed."""
    begin, marks, rows, notes, deeds = book
    mirrored = [(let, _all_mirrored(statements)) for let, statements in deeds]
    # A thing that comes stands at the back; mirrored, it has to come to the front instead.
    coming = tuple([("first", row) for row in range(rows)]) + mirrored[0][1]
    if len(coming) > MOST_STATEMENTS:
        raise TooMany(MOST_STATEMENTS)
    mirrored[0] = ((), coming)
    return (begin, marks, rows, notes, tuple(mirrored))


def _all_mirrored(statements):
    return tuple([_one_mirrored(statement) for statement in statements])


def _one_mirrored(statement):
    word = statement[0]
    if word == "mark":
        return statement
    if word == "if":
        return (word, statement[1], _all_mirrored(statement[2]), _all_mirrored(statement[3]))
    if word == "marks" or word == "notes":
        return (word, _test_mirrored(statement[1]), *statement[2:])
    if len(statement) == 3:
        return (MIRRORED[word], statement[1], _test_mirrored(statement[2]))
    return (MIRRORED[word], statement[1])


def _test_mirrored(test):
    return tuple([(mine, theirs, kinds, seen, 3 - side if side else 0)
                  for mine, theirs, kinds, seen, side in test])
