"""Rulebooks and runs as texts."""

CASE_WORDS = ("mine", "theirs", "kinds", "seen")
SIDE_WORDS = ("", "ahead", "behind")


def show_book(book):
    """The text of a rulebook."""
    begin, marks, rows, notes, deeds = book
    lines = [_line("book", begin) + f" marks {marks} rows {rows} notes {notes}"]
    for deed, (let, statements) in enumerate(deeds):
        lines.append("come" if deed == 0 else _line("deed", let))
        lines.extend(_lines_of(statements, "  "))
    return "\n".join(lines)


def show_run(run):
    """The text of a run."""
    return "\n".join([_run_line(deed, thing) for deed, thing in run])


def show_thing(thing):
    """A thing as it is written."""
    return f"{thing[0]}.{thing[1]}"


def _run_line(deed, thing):
    if deed == 0:
        return f"come {show_thing(thing)}"
    if deed == -1:
        return f"go {show_thing(thing)}"
    return f"deed {deed} {show_thing(thing)}"


def _line(word, numbers):
    return " ".join([word] + [str(number) for number in numbers])


def _lines_of(statements, indent):
    lines = []
    for statement in statements:
        lines.append(indent + _shown(statement))
        if statement[0] == "if":
            lines.extend(_lines_of(statement[2], indent + "  "))
            if statement[3]:
                lines.append(indent + "else")
                lines.extend(_lines_of(statement[3], indent + "  "))
    return lines


def _shown(statement):
    word = statement[0]
    if word == "mark" or word == "if":
        return _line(word, statement[1])
    if word == "marks":
        return _line(f"marks {_test(statement[1])} to", statement[2])
    if word == "notes":
        mine = _line(f"notes {_test(statement[1])} to", statement[2])
        return _line(mine + " and", statement[3])
    if len(statement) == 2:
        return f"{word} {statement[1]}"
    return f"{word} {statement[1]} {_test(statement[2])}"


def _test(test):
    if not test:
        return "never"
    return " or ".join([_case(case) for case in test])


def _case(case):
    words = [f"{word}=" + ",".join([str(number) for number in case[at]])
             for at, word in enumerate(CASE_WORDS) if case[at]]
    if case[4]:
        words.append(SIDE_WORDS[case[4]])
    return " ".join(words) if words else "always"
