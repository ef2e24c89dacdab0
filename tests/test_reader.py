"""[13]: reading rulebooks and runs."""

import random
import unittest

from ownmoment.errors import NoText, Wrong
from ownmoment.reader import read_book, read_run
from ownmoment.texts import show_book, show_run
from tests.samples import (
    ALWAYS, ASK, ASK_TEXT, BOOKS, LEAST, SWAP, any_values, chance_books, chance_run, full_book, lasting)

HEAD = "book 0 1 marks 3 rows 2 notes 2"
ONE_ROW = "book 0 marks 2 rows 1 notes 3"


def spread(chance, text):
    """The same text, written otherwise as it may be."""
    lines = []
    depths = {}
    for line in text.split("\n"):
        while chance.random() < .2:
            lines.append(chance.choice(("", "   ", "#", "  # a note", "# come", "#if 0 # else")))
        body = line.lstrip(" ")
        depth = len(line) - len(body)
        if depth == 0:
            depths = {0: 0, 2: chance.randrange(1, 5)}
        elif body == "else" or depth == 2:
            depths[4] = depths[2] + chance.randrange(1, 5)
        lines.append(" " * depths[depth] + spread_words(chance, body.split(" ")))
    while chance.random() < .3:
        lines.append(chance.choice(("", " ", "# end")))
    return "\n".join(lines)


def spread_words(chance, words):
    if words[0] in ("deed", "if"):
        marks = words[1:]
        chance.shuffle(marks)
        words = words[:1] + marks
    if words[0] in ("pass", "yield", "leap", "fall", "marks", "notes"):
        start = 2 if words[0] in ("pass", "yield", "leap", "fall") else 1
        end = words.index("to") if "to" in words else len(words)
        cases = " ".join(words[start:end]).split(" or ")
        words = words[:start] + " or ".join(spread_case(chance, case.split(" ")) for case in cases).split(" ") + words[end:]
    text = words[0]
    for word in words[1:]:
        text += " " * chance.choice((1, 1, 2, 5)) + word
    return text + chance.choice(("", "", " ", "    ", "# note", " # deed 0", "#"))


def spread_case(chance, words):
    chance.shuffle(words)
    made = []
    for word in words:
        name, sign, numbers = word.partition("=")
        numbers = numbers.split(",")
        chance.shuffle(numbers)
        made.append(name + sign + ",".join(numbers))
    return " ".join(made)


class ReadBookTest(unittest.TestCase):

    def test_what_is_shown_is_read(self):
        self.assertEqual(read_book(ASK_TEXT), ASK)
        for book in BOOKS + (full_book(),) + tuple(chance_books(11, 400)):
            text = show_book(book)
            read = read_book(text)
            self.assertEqual(read, book)
            self.assertEqual(lasting(read), lasting(book))
            self.assertEqual(show_book(read), text)

    def test_the_same_written_otherwise(self):
        chance = random.Random(12)
        for book in BOOKS + (full_book(),) + tuple(chance_books(13, 300)):
            for _ in range(3):
                text = spread(chance, show_book(book))
                self.assertEqual(lasting(read_book(text)), lasting(book), text)

    def test_by_hand(self):
        text = "# a book\n\n  \nbook  1   marks 2 rows 1   notes 1 # so\ncome#\n#  first 0\n     first   0   \n\n     if 1 0#x\n      up 0\n" \
               "     else\n       #\n     else_" 
        with self.assertRaises(NoText) as caught:
            read_book(text)
        self.assertEqual(caught.exception.line, 13)
        text = text.replace("else_", "last 0") + "\ndeed 1 0\n deed".replace("\n deed", "\n mark 1 0\ndeed") + "\n\n"
        self.assertEqual(read_book(text), ((1,), 2, 1, 1, (
            ((), (("first", 0), ("if", (0, 1), (("up", 0),), ()), ("last", 0))), ((0, 1), (("mark", (1, 0)),)), ((), ()))))

    def test_else_with_no_line_beneath(self):
        start = ONE_ROW + "\ncome\n"
        for lines, statements in (
                (" if 0\n else", (("if", (0,), (), ()),)),
                (" if 0\n  up 0\n else\n up 0", (("if", (0,), (("up", 0),), ()), ("up", 0))),
                (" if 0\n else\n  up 0", (("if", (0,), (), (("up", 0),)),)),
                (" if\n     up 0\n else\n  down 0\n  up 0\n if 1\n  up 0",
                 (("if", (), (("up", 0),), (("down", 0), ("up", 0))), ("if", (1,), (("up", 0),), ()))),
                (" if\n if\n else\n if", (("if", (), (), ()),) * 3)):
            for end, more in (("", ()), ("\ndeed 0", (((0,), ()),)), ("\n\n#\n   \n", ())):
                self.assertEqual(read_book(start + lines + end)[4], (((), statements),) + more, lines)

    def test_lines_are_lacking(self):
        for text, line in (("", 2), ("\n", 3), ("\n\n\n", 5), ("#", 2), ("  ", 2), ("# a\n  \n#", 4), (LEASTLINE, 2),
                           (LEASTLINE + "\n", 3), ("\n" + LEASTLINE, 3), (LEASTLINE + " # x\n\n#come", 4)):
            with self.assertRaises(NoText) as caught:
                read_book(text)
            self.assertEqual(caught.exception.line, line, text)
        self.assertEqual(read_book(LEASTLINE + "\ncome"), LEAST)

    def check_bad(self, lines, line):
        """The line, counted from 1, is the first bad one; whatever else follows or is skipped."""
        lines = lines.split("\n")
        for text, at in (("\n".join(lines), line), ("\n".join(lines[:line]), line), ("\n".join(lines[:line]) + "\nbad", line),
                         ("\n#\n" + "\n".join(lines), line + 2), ("\n  \n".join(lines), 2 * line - 1),
                         (" # x\n".join(lines) + "\n#", line)):
            with self.assertRaises(NoText, msg=text) as caught:
                read_book(text)
            self.assertEqual(caught.exception.line, at, text)

    def test_bad_first_lines(self):
        for line in (
                "come", "book", "Book 0 marks 1 rows 1 notes 1", " book 0 marks 1 rows 1 notes 1", "book marks 1 rows 1 notes 1",
                "book 0 0 0 marks 1 rows 1 notes 1", "book 1 marks 1 rows 1 notes 1", "book 0 1 marks 1 rows 1 notes 1",
                "book 5 marks 5 rows 1 notes 1", "book 0 marks 0 rows 1 notes 1", "book 0 marks 6 rows 1 notes 1",
                "book 0 marks 1 rows 0 notes 1", "book 0 marks 1 rows 3 notes 1", "book 0 marks 1 rows 1 notes 0",
                "book 0 marks 1 rows 1 notes 7", "book 0 marks 1 rows 1 notes", "book 0 marks 1 rows 1", "book 0 rows 1 marks 1 notes 1",
                "book 0 marks 1 rows 1 notes 1 1", "book 0 marks 01 rows 1 notes 1", "book 00 marks 1 rows 1 notes 1",
                "book 0 marks 1 rows 1 notes 0000000001", "book -0 marks 1 rows 1 notes 1", "book 0 marks +1 rows 1 notes 1",
                "book 0, marks 1 rows 1 notes 1", "book 0 marks=1 rows 1 notes 1", "book x marks 1 rows 1 notes 1",
                "book 0 marks 1 rows x notes 1", "book 0 mark 1 rows 1 notes 1", "book 0 marks 1 row 1 notes 1",
                "book 0 marks 1 rows 1 note 1", "0 marks 1 rows 1 notes 1", "book0 marks 1 rows 1 notes 1", "x", "deed 0",
                "book 0 marks 1 rows 1 notes 1\u0661", "book \u0661 marks 2 rows 1 notes 1"):
            self.check_bad(line + "\ncome", 1)
        for kinds in ("0", "4 0"):
            for marks, rows, notes in ((5, 1, 1), (5, 2, 6)):
                read_book(f"book {kinds} marks {marks} rows {rows} notes {notes}\ncome")

    def test_bad_second_lines(self):
        for line in ("book 0 marks 1 rows 1 notes 1", " come", "come 0", "come come", "Come", "deed 0", "deed", "  first 0", "first 0",
                     "x", "come=", "else"):
            self.check_bad(f"{HEAD}\n{line}\ndeed 0", 2)

    def test_bad_deed_lines(self):
        for line in ("deed 3", "deed 0 0", "deed 0 1 2 0", "deed 0 1 1", "deed x", "deed 00", "deed -1", "deed 1,2", "come", "deeds 0",
                     "Deed 0", "go", "book 0 1 marks 3 rows 2 notes 2", "first 0", "if 0", "else", "mark 0 0 0", "deed 0 to",
                     "deed 1000000000", "deed 0123"):
            self.check_bad(f"{HEAD}\ncome\n{line}\n first 0", 3)
            self.check_bad(f"{HEAD}\ncome\n  first 0\ndeed 2 1\n first 1\n{line}\n first 0", 6)
        self.check_bad(f"{HEAD}\ncome" + "\ndeed 0" * 6, 8)
        self.check_bad(f"{HEAD}\ncome" + "\ndeed 0\n first 0" * 6, 13)
        self.assertEqual(len(read_book(f"{HEAD}\ncome" + "\ndeed 0" * 5)[4]), 6)

    BAD = (
        "mark", "mark 0 0", "mark 0 0 0 0", "mark 0 0 3", "mark 0 0 00", "mark 0,0,0", "mark 0 0 x", "mark to 0 0 0", "marks",
        "first", "first 2", "first x", "first 00", "first 0 0", "last", "last 2", "last 0 1", "up", "up 2", "up 0 always", "down", "down 2",
        "down 0 0", "First 0", "firsts 0", "first 0,", "first row", "front 0", "first -0", "first 0.0", "first 1000000000",
        "pass", "pass 0", "pass 2 always", "pass always", "pass 0 always always", "pass 0 always never", "pass 0 never always",
        "pass 0 never or always", "pass 0 always or never", "pass 0 or", "pass 0 always or", "pass 0 or always", "pass 0 always or or always",
        "pass 0 always ahead", "pass 0 ahead always", "pass 0 never ahead", "pass 0 ahead behind", "pass 0 ahead ahead", "pass 0 behind behind",
        "pass 0 ahead mine=0 behind", "pass 0 mine", "pass 0 mine=", "pass 0 mine=3", "pass 0 mine=0,0", "pass 0 mine=0,", "pass 0 mine=,0",
        "pass 0 mine=0,,1", "pass 0 mine=0 mine=1", "pass 0 mine=0 theirs=0 mine=0", "pass 0 mine 0", "pass 0 mine =0", "pass 0 mine= 0",
        "pass 0 mine=0, 1", "pass 0 theirs=3", "pass 0 theirs=1,1", "pass 0 kinds=2", "pass 0 kinds=0,0", "pass 0 kinds=", "pass 0 seen=2",
        "pass 0 seen=1,1", "pass 0 seen=x", "pass 0 mine=00", "pass 0 mine=0000000000", "pass 0 Mine=0", "pass 0 mines=0", "pass 0 =0",
        "pass 0 ahead=", "pass 0 ahead=1", "pass 0 side=1", "pass 0 x", "pass 0 always to", "pass 0 always to 0 0 0", "pass 0 mine=0=1",
        "pass 0 " + " or ".join(["always"] * 7), "pass 0 " + " or ".join(["mine=0"] * 7), "pass 0 0", "pass 0 1", "pass 0 Always",
        "yield 0", "yield 2 always", "yield 0 x", "leap 0", "leap 2 never", "leap 0 x", "fall 0", "fall 2 never", "fall 0 x", "fall never",
        "marks always", "marks always to", "marks always to 0 0", "marks always to 0 0 0 0", "marks always to 0 0 3", "marks to 0 0 0",
        "marks always 0 0 0", "marks 0 always to 0 0 0", "marks always to to 0 0 0", "marks x to 0 0 0", "marks always to 0 0 0 and 0 0 0",
        "marks always to 0,0,0", "marks never never to 0 0 0", "marks mine=0 mine=0 to 0 0 0", "marks " + " or ".join(["never"] * 2) + " to 0 0 0",
        "marks " + " or ".join(["always"] * 7) + " to 0 0 0", "marks always or to 0 0 0",
        "notes always", "notes always to 0 0", "notes always to 0 0 and", "notes always to 0 0 and 0", "notes always to 0 0 and 0 2",
        "notes always to 0 2 and 0 0", "notes always to 0 and 0 0", "notes always to 0 0 0 and 0 0", "notes always to 0 0 and 0 0 0",
        "notes always and 0 0 to 0 0", "notes to 0 0 and 0 0", "notes always to 0 0 to 0 0", "notes x to 0 0 and 0 0",
        "notes always to and 0 0", "notes always 0 0 and 0 0", "notes always to 0 0 and 0 0 and 0 0", "notes 0 always to 0 0 and 0 0",
        "notes always to 0 0 and 00 0", "notes kinds=2 to 0 0 and 0 0",
        "if 3", "if 0 0", "if x", "if 0,1", "if 00", "if 0 else", "if 0 always", "If 0", "ifs", "else", "else 0", "come", "deed 0", "deed",
        "go 0", "book", "to", "and", "or", "never", "always", "ahead", "=", "0", "-", "first 0 first 0",
    )

    def test_bad_statements(self):
        for line in self.BAD:
            self.check_bad(f"{HEAD}\ncome\n  {line}", 3)
            self.check_bad(f"{HEAD}\ncome\n  first 1\n  {line}\n  first 0", 4)
            self.check_bad(f"{HEAD}\ncome\ndeed 1\n if 0\n  up 0\n else\n {line}\ndeed", 7)
            self.check_bad(f"{HEAD}\ncome\ndeed 1\n if 0\n  {line}", 5)
            self.check_bad(f"{HEAD}\ncome\ndeed 1\n if 0\n  up 0\n else\n   up 0\n   {line}", 8)

    def test_good_statements_near_the_bad_ones(self):
        for line in ("mark 0 0 0", "mark 2 2 2", "first 1", "pass 0 never", "pass 1 always", "pass 0 ahead", "pass 0 behind",
                     "pass 0 mine=2 theirs=2 kinds=1 seen=1 ahead", "pass 0 ahead seen=1,0 kinds=1,0 theirs=0,2,1 mine=1,0",
                     "pass 0 " + " or ".join(["always"] * 6), "marks never to 0 0 2", "notes always to 0 1 and 1 1", "if", "if 2 1 0", "if 0"):
            self.assertEqual(len(read_book(f"{HEAD}\ncome\n {line}")[4][0][1]), 1, line)

    def test_no_if_within_an_if(self):
        for line in ("if", "if 0", "if 0 1"):
            self.check_bad(f"{HEAD}\ncome\n if 0\n  {line}\n  up 0", 4)
            self.check_bad(f"{HEAD}\ncome\n if 0\n  up 0\n  {line}\n   up 0", 5)
            self.check_bad(f"{HEAD}\ncome\n if 0\n else\n  {line}\n  up 0", 5)

    def test_in_one_row_no_side_for_what_moves(self):
        for word in ("pass", "yield", "leap", "fall"):
            for side in ("ahead", "behind"):
                self.check_bad(f"{ONE_ROW}\ncome\n {word} 0 {side}", 3)
                self.check_bad(f"{ONE_ROW}\ncome\n {word} 0 always or mine=0 {side}", 3)
                self.check_bad(f"{ONE_ROW}\ncome\n if 0\n  {word} 0 {side}", 4)
                read_book(f"{HEAD}\ncome\n {word} 0 {side}")
        for side, number in (("ahead", 1), ("behind", 2)):
            book = read_book(f"{ONE_ROW}\ncome\n marks {side} to 0 0\n notes {side} to 0 0 0 and 0 1 2")
            test = (((), (), (), (), number),)
            self.assertEqual(book[4][0][1], (("marks", test, (0, 0)), ("notes", test, (0, 0, 0), (0, 1, 2))))

    def test_beyond_the_first_line(self):
        good = ("mark 1 1", "first 0", "pass 0 mine=1", "marks theirs=1 to 1 1", "notes seen=2 to 2 2 2 and 2 2 2", "if 1", "leap 0 kinds=0")
        bad = ("mark 1 2", "mark 1 1 1", "first 1", "pass 1 always", "pass 0 mine=2", "marks theirs=2 to 1 1", "marks always to 1 2",
               "marks always to 1 1 1", "notes seen=3 to 2 2 2 and 2 2 2", "notes always to 2 2 3 and 2 2 2", "notes always to 2 2 2 and 2 2 3",
               "notes always to 2 2 and 2 2", "if 2", "leap 0 kinds=1")
        for line in good:
            read_book(f"{ONE_ROW}\ncome\n {line}")
        for line in bad:
            self.check_bad(f"{ONE_ROW}\ncome\n {line}", 3)

    def test_indents(self):
        for lines, line in (
                ("come\n  up 0\n deed 0", 4), ("come\n if 0\n   up 0\n  deed 0", 5), ("come\n up 0\ndeed 0\n  up 0\n deed 0\n  up 0", 6),
                ("come\nfirst 0", 3), ("come\n first 0\n  first 0", 4), ("come\n  first 0\n first 0", 4), ("come\n first 0\nfirst 0", 4),
                ("come\n if 0\nfirst 0", 4), ("come\n if 0\n   first 0\n  first 0", 5), ("come\n if 0\n  first 0\n   first 0", 5),
                ("come\n  if 0\n    first 0\n first 0", 5), ("come\n  if 0\n    first 0\n   else", 5), ("come\n  if 0\n    first 0\n    else", 5),
                ("come\n  if 0\n    first 0\n else", 5), ("come\n  if 0\nelse", 4), ("come\n  if 0\n    first 0\n  else\n  first 0\n    first 0", 7),
                ("come\n  if 0\n  else\n    up 0\n   up 0", 6), ("come\n  if 0\n  else\n    up 0\n     up 0", 6),
                ("come\n  if 0\n  else\n  else", 5), ("come\n  if 0\n  else\n   up 0\n  else", 6), ("come\n  if 0\n  up 0\n  else", 5),
                ("come\n  else", 3), ("come\n  first 0\n  else", 4), ("come\n if 0\n  up 0\n up 0\n  up 0", 6), ("come\n up 0\n deed 0", 4),
                ("come\n up 0\n come", 4), (" come", 2), ("come\n if 0\n  up 0\n else 0", 5), ("come\n if 0\n  up 0\n Else", 5)):
            self.check_bad(f"{HEAD}\n{lines}", line)
        for first in range(1, 6):
            for then in range(first + 1, 9):
                for other in range(first + 1, 9):
                    book = read_book(f"{HEAD}\ncome\n{' ' * first}if 0\n{' ' * then}up 0\n{' ' * then}up 1\n{' ' * first}else\n"
                                     f"{' ' * other}down 0\n{' ' * other}down 1\n{' ' * first}last 0\ndeed\n up 0")
                    self.assertEqual(book[4], (((), (("if", (0,), (("up", 0), ("up", 1)), (("down", 0), ("down", 1))), ("last", 0))),
                                               ((), (("up", 0),))))

    def test_too_many_statements(self):
        self.assertEqual(len(read_book(f"{HEAD}\ncome" + "\n up 0" * 8)[4][0][1]), 8)
        self.check_bad(f"{HEAD}\ncome" + "\n up 0" * 9, 11)
        self.check_bad(f"{HEAD}\ncome\ndeed 0" + "\n up 0" * 10, 12)
        self.check_bad(f"{HEAD}\ncome" + "\n if 0\n  up 0\n else\n  up 0" * 9, 35)
        inner = "\n  up 0" * 6
        self.assertEqual(len(read_book(f"{HEAD}\ncome" + f"\n if 0{inner}\n else{inner}" * 8)[4][0][1]), 8)
        self.check_bad(f"{HEAD}\ncome\n if 0{inner}\n  up 0\n else", 10)
        self.check_bad(f"{HEAD}\ncome\n if 0\n else{inner}\n  up 0", 11)
        self.check_bad(f"{HEAD}\ncome\n if 0{inner}\n else{inner}\n  up 0", 17)

    def test_wrong_ahead_of_no_text(self):
        for value in any_values() + [[ASK_TEXT], (ASK_TEXT,), ASK]:
            if isinstance(value, str):
                with self.assertRaises(NoText):
                    read_book(value)
            else:
                with self.assertRaises(Wrong) as caught:
                    read_book(value)
                self.assertEqual((type(caught.exception.place), caught.exception.place), (int, 0))

    def test_long_texts(self):
        self.assertEqual(read_book("#" * 20000 + "\n" + show_book(SWAP) + " " * 20000 + "\n" * 5000), SWAP)
        self.check_bad(f"{HEAD}\ncome\n mark " + "0 " * 10000, 3)
        self.check_bad(f"{HEAD}\ncome\n pass 0 mine=" + "0," * 10000, 3)
        self.check_bad("x" * 20000, 1)

    def test_equal_texts_give_equal_books(self):
        first = read_book(ASK_TEXT)
        read_book(show_book(SWAP))
        self.assertEqual(read_book(ASK_TEXT), first)


LEASTLINE = "book 0 marks 1 rows 1 notes 1"


class ReadRunTest(unittest.TestCase):

    def test_what_is_shown_is_read(self):
        chance = random.Random(14)
        runs = [chance_run(chance, book, 30) for book in BOOKS]
        runs += [[], [(-1, (1, 9999)), (0, (0, 0)), (1, (0, 10)), (999999999, (1, 1))], [(5, (0, 1))] * 40]
        for run in runs:
            read = read_run(show_run(run))
            self.assertEqual(lasting(read), lasting(run))
            self.assertIs(type(read), list)

    def test_written_otherwise(self):
        text = "\n# a run\ncome   0.5  # first\n\n   \ngo 0.5#\n  # x\ndeed  12   1.9999   \n"
        self.assertEqual(read_run(text), [(0, (0, 5)), (-1, (0, 5)), (12, (1, 9999))])
        for text in ("", "\n", "#", "   \n # x\n"):
            self.assertEqual(read_run(text), [])

    def test_bad_lines(self):
        for line in (
                " come 0.0", "  go 0.0", " deed 1 0.0", "come", "go", "deed", "come 0", "come 0.", "come .0", "come 0.0.0", "come 0..0",
                "come 2.0", "come 0.10000", "come 0.999999999", "come 0.00", "come 0.01", "come 00.1", "come 0.0000000001", "come -1.0",
                "come 0.-1", "come 0 .0", "come 0. 0", "come 0,0", "come a.0", "come 0.a", "come 0.0 0.1", "go 0.0 0.1", "come 1 0.0",
                "go 1 0.0", "deed 0.0", "deed 1", "deed 0 0.0", "deed 00 0.0", "deed 01 0.0", "deed 1000000000 0.0", "deed -1 0.0",
                "deed x 0.0", "deed 1 2.0", "deed 1 0.0 0.1", "deed 0.0 1", "deed +1 0.0", "Come 0.0", "COME 0.0", "comes 0.0", "first 0",
                "0 0.0", "book 0 marks 1 rows 1 notes 1", "come 0.0,", "come=0.0", "deed 1.0 0.0", ".", "come 1.10000", "go 2.0",
                "come \u0661.0", "deed \u00b2 0.0"):
            for text, at in ((line, 1), ("come 0.0\n" + line, 2), ("come 0.0\n\n# x\n" + line + "\ngo 0.0\nx", 4), (line + "\nx", 1),
                             ("\n \n" + line + " # x\n", 3)):
                with self.assertRaises(NoText, msg=text) as caught:
                    read_run(text)
                self.assertEqual(caught.exception.line, at, text)
        self.assertEqual(read_run("come 0.9999\ncome 1.0\ndeed 999999999 0.0"), [(0, (0, 9999)), (0, (1, 0)), (999999999, (0, 0))])

    def test_it_is_not_asked_whether_it_is_a_run(self):
        self.assertEqual(read_run("go 0.0\ndeed 7 1.0\ncome 0.1\ncome 0.1"), [(-1, (0, 0)), (7, (1, 0)), (0, (0, 1)), (0, (0, 1))])

    def test_wrong_ahead_of_no_text(self):
        for value in any_values() + [["come 0.0"], ("come 0.0",)]:
            if value == "" and isinstance(value, str):
                self.assertEqual(read_run(value), [])
            elif isinstance(value, str):
                with self.assertRaises(NoText):
                    read_run(value)
            else:
                with self.assertRaises(Wrong) as caught:
                    read_run(value)
                self.assertEqual((type(caught.exception.place), caught.exception.place), (int, 0))

    def test_new_each_time(self):
        text = "come 0.0\ngo 0.0"
        found = read_run(text)
        found.clear()
        self.assertEqual(read_run(text), [(0, (0, 0)), (-1, (0, 0))])


class CasesTest(unittest.TestCase):

    def test_marks_in_any_order(self):
        text = f"{HEAD}\ncome\ndeed 2 0\n if 2 1\n  fall 1 seen=1,0 behind mine=2,0 or theirs=1 or always"
        self.assertEqual(read_book(text)[4][1], ((0, 2), (
            ("if", (1, 2), (("fall", 1, (((0, 2), (), (), (0, 1), 2), ((), (1,), (), (), 0), ALWAYS)),), ()),)))


if __name__ == "__main__":
    unittest.main()
