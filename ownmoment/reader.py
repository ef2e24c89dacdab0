"""Reading rulebooks and runs from texts."""

from ownmoment.books import (
    GREATEST_NUMBER, MOST_CASES, MOST_DEEDS, MOST_INNER, MOST_KINDS, MOST_MARKS, MOST_NOTES, MOST_ROWS,
    MOST_STATEMENTS)
from ownmoment.errors import NoText, Wrong
from ownmoment.texts import CASE_WORDS, SIDE_WORDS

DIGITS = "0123456789"
MOST_DIGITS = 9


def read_book(text):
    """The rulebook that the text shows."""
    if not isinstance(text, str):
        raise Wrong(0)
    lines = _lines_of(text)
    if not lines:
        raise NoText(text.count("\n") + 2)
    begin, sizes = _first_line(lines[0])
    if len(lines) == 1:
        raise NoText(text.count("\n") + 2)
    if lines[1][1:] != (0, ["come"]):
        raise NoText(lines[1][0])
    return (begin, *sizes[1:], tuple(_deeds_in(lines, sizes)))


def read_run(text):
    """The tuples (deed, thing) that the text shows."""
    if not isinstance(text, str):
        raise Wrong(0)
    run = []
    for line, indent, words in _lines_of(text):
        read = _run_tuple(words)
        if indent or read is None:
            raise NoText(line)
        run.append(read)
    return run


def _lines_of(text):
    """Tuples (line, indent, words) of the lines that are not skipped, line being counted from 1."""
    found = []
    for at, line in enumerate(text.split("\n")):
        told = line.partition("#")[0]
        words = [word for word in told.split(" ") if word]
        if words:
            found.append((at + 1, len(told) - len(told.lstrip(" ")), words))
    return found


def _run_tuple(words):
    if words[0] == "deed" and len(words) == 3:
        deed = read_number(words[1])
        thing = read_thing(words[2])
        return None if thing is None or not deed else (deed, thing)
    if len(words) != 2 or words[0] not in ("come", "go"):
        return None
    thing = read_thing(words[1])
    return None if thing is None else (0 if words[0] == "come" else -1, thing)


def read_thing(word):
    """The thing that is written so, or None."""
    parts = word.split(".")
    if len(parts) != 2:
        return None
    kind, number = read_number(parts[0]), read_number(parts[1])
    if kind is None or number is None or kind >= MOST_KINDS or number > GREATEST_NUMBER:
        return None
    return (kind, number)


def _first_line(line):
    """The tuples begin and (kinds, marks, rows, notes) of the line that begins a rulebook."""
    number, indent, words = line
    begin = words[1:-6]
    if indent or words[0] != "book" or not 1 <= len(begin) <= MOST_KINDS or words[-6::2] != ["marks", "rows", "notes"]:
        raise NoText(number)
    marks, rows, notes = [read_number(word) for word in words[-5::2]]
    if not (_is_counted(marks, MOST_MARKS) and _is_counted(rows, MOST_ROWS) and _is_counted(notes, MOST_NOTES)):
        raise NoText(number)
    begin = _numbers(begin, marks)
    if begin is None:
        raise NoText(number)
    return tuple(begin), (len(begin), marks, rows, notes)


def _is_counted(number, most):
    return number is not None and 1 <= number <= most


def _deeds_in(lines, sizes):
    """The deeds behind the line that begins a rulebook, in a list."""
    let = ()
    deeds = []
    at = 1
    while True:
        statements, at = _block(lines, at + 1, 0, sizes, MOST_STATEMENTS, True)
        deeds.append((let, statements))
        if at == len(lines):
            return deeds
        number, indent, words = lines[at]
        let = _distinct(words[1:], sizes[1])
        if indent or words[0] != "deed" or let is None or len(deeds) == MOST_DEEDS:
            raise NoText(number)


def _block(lines, at, floor, sizes, most, may_branch):
    """The statements from the line at on that stand deeper than floor, and where the lines go on behind them."""
    found = []
    if at == len(lines) or lines[at][1] <= floor:
        return (), at
    depth = lines[at][1]
    while at < len(lines) and lines[at][1] == depth:
        number, _, words = lines[at]
        if len(found) == most:
            raise NoText(number)
        if words[0] == "if" and may_branch:
            statement, at = _branches(lines, at, sizes)
        else:
            statement, at = _statement(words, sizes), at + 1
        if statement is None:
            raise NoText(number)
        found.append(statement)
    return tuple(found), at


def _branches(lines, at, sizes):
    """The "if" of the line at, or None, and where the lines go on behind it."""
    _, depth, words = lines[at]
    some = _distinct(words[1:], sizes[1])
    if some is None:
        return None, at
    then, at = _block(lines, at + 1, depth, sizes, MOST_INNER, False)
    other = ()
    if at < len(lines) and lines[at][1:] == (depth, ["else"]):
        other, at = _block(lines, at + 1, depth, sizes, MOST_INNER, False)
    return ("if", some, then, other), at


def _statement(words, sizes):
    """The statement, no "if", that these words are, or None."""
    _, marks, rows, notes = sizes
    word = words[0]
    if word == "mark":
        table = _table(words[1:], marks)
        return None if table is None else (word, table)
    if word == "marks":
        test, table = _split_at(words[1:], "to")
        test, table = _test(test, sizes, True), _table(table, marks)
        return None if test is None or table is None else (word, test, table)
    if word == "notes":
        test, tables = _split_at(words[1:], "to")
        mine, theirs = _split_at(tables, "and")
        test, mine, theirs = _test(test, sizes, True), _table(mine, notes), _table(theirs, notes)
        return None if test is None or mine is None or theirs is None else (word, test, mine, theirs)
    if len(words) < 2 or _number_below(words[1], rows) is None:
        return None
    row = read_number(words[1])
    if word in ("first", "last", "up", "down"):
        return (word, row) if len(words) == 2 else None
    if word in ("pass", "yield", "leap", "fall"):
        test = _test(words[2:], sizes, rows == 2)
        return None if test is None else (word, row, test)
    return None


def _split_at(words, word):
    """The words ahead of this word, and those behind it; no words behind it if it is not there."""
    if word not in words:
        return words, []
    at = words.index(word)
    return words[:at], words[at + 1:]


def _test(words, sizes, has_side_row):
    if words == ["never"]:
        return ()
    cases = [[]]
    for word in words:
        if word == "or":
            cases.append([])
        else:
            cases[-1].append(word)
    if len(cases) > MOST_CASES:
        return None
    test = [_case(case, sizes, has_side_row) for case in cases]
    return None if None in test else tuple(test)


def _case(words, sizes, has_side_row):
    if words == ["always"]:
        return ((), (), (), (), 0)
    kinds, marks, _, notes = sizes
    limits = (marks, marks, kinds, notes)
    parts = {}
    for word in words:
        name, sign, numbers = word.partition("=")
        if name in SIDE_WORDS[1:] and not sign and has_side_row and "side" not in parts:
            parts["side"] = SIDE_WORDS.index(name)
        elif name in CASE_WORDS and sign and name not in parts:
            parts[name] = _distinct(numbers.split(","), limits[CASE_WORDS.index(name)])
            if parts[name] is None:
                return None
        else:
            return None
    if not parts:
        return None
    return (*[parts.get(name, ()) for name in CASE_WORDS], parts.get("side", 0))


def _table(words, many):
    table = _numbers(words, many)
    return tuple(table) if table is not None and len(table) == many else None


def _distinct(words, limit):
    """The ascending tuple of the numbers, all below the limit and each there once, or None."""
    numbers = _numbers(words, limit)
    if numbers is None or len(set(numbers)) < len(numbers):
        return None
    return tuple(sorted(numbers))


def _numbers(words, limit):
    """The list of the numbers, all below the limit, or None."""
    numbers = [_number_below(word, limit) for word in words]
    return None if None in numbers else numbers


def _number_below(word, limit):
    number = read_number(word)
    return number if number is not None and number < limit else None


def read_number(word):
    """The number that is written so, or None."""
    if not 1 <= len(word) <= MOST_DIGITS or (word[0] == "0" and word != "0"):
        return None
    if not all([sign in DIGITS for sign in word]):
        return None
    return int(word)
