"""[12]: rulebooks and runs as texts."""

import unittest

from ownmoment.texts import show_book, show_run
from tests.samples import ALWAYS, ASK, ASK_TEXT, LEAST, NARROW, SWAP, WIDE, lasting

EMPTY = ((0,), 2, 2, 3, (((), ()),))


def shown(statement, kinds=2, marks=3, rows=2, notes=2):
    """The lines of a statement, without the indent of a deed."""
    lines = show_book(((0,) * kinds, marks, rows, notes, (((), ()), ((1,), (statement,))))).split("\n")
    assert all(line.startswith("  ") for line in lines[3:]), lines
    return [line[2:] for line in lines[3:]]


class ShowBookTest(unittest.TestCase):

    def test_the_example_of_the_document(self):
        self.assertEqual(show_book(ASK), ASK_TEXT)

    def test_first_lines(self):
        self.assertEqual(show_book(LEAST), "book 0 marks 1 rows 1 notes 1\ncome")
        self.assertEqual(show_book(EMPTY), "book 0 marks 2 rows 2 notes 3\ncome")
        self.assertEqual(show_book(((4, 2), 5, 2, 6, (((), ()),))), "book 4 2 marks 5 rows 2 notes 6\ncome")
        self.assertEqual(show_book(((1, 1), 2, 1, 1, (((), ()),))), "book 1 1 marks 2 rows 1 notes 1\ncome")

    def test_deeds_and_let(self):
        book = ((0,), 5, 1, 1, (((), (("first", 0),)), ((), ()), ((0,), (("up", 0), ("last", 0))), ((0, 1, 2, 3, 4), ()), ((3,), ())))
        self.assertEqual(show_book(book).split("\n"), [
            "book 0 marks 5 rows 1 notes 1", "come", "  first 0", "deed", "deed 0", "  up 0", "  last 0",
            "deed 0 1 2 3 4", "deed 3"])

    def test_each_statement(self):
        for word in ("first", "last", "up", "down"):
            for row in (0, 1):
                self.assertEqual(shown((word, row)), [f"{word} {row}"])
        for word in ("pass", "yield", "leap", "fall"):
            for row in (0, 1):
                self.assertEqual(shown((word, row, ())), [f"{word} {row} never"])
                self.assertEqual(shown((word, row, (ALWAYS,))), [f"{word} {row} always"])
                self.assertEqual(shown((word, row, (((2,), (), (), (), 1),))), [f"{word} {row} mine=2 ahead"])
        self.assertEqual(shown(("mark", (2, 0, 1))), ["mark 2 0 1"])
        self.assertEqual(shown(("mark", (0,)), marks=1), ["mark 0"])
        self.assertEqual(shown(("marks", (ALWAYS,), (2, 2, 0))), ["marks always to 2 2 0"])
        self.assertEqual(shown(("marks", (), (2, 2, 0))), ["marks never to 2 2 0"])
        self.assertEqual(shown(("notes", (ALWAYS,), (1, 0), (0, 0))), ["notes always to 1 0 and 0 0"])
        self.assertEqual(shown(("notes", (((), (), (), (1,), 2), ALWAYS), (3, 1, 2, 0), (0, 0, 1, 1)), notes=4),
                         ["notes seen=1 behind or always to 3 1 2 0 and 0 0 1 1"])

    def test_each_form_of_a_test(self):
        for case, words in (
                (ALWAYS, "always"), (((0,), (), (), (), 0), "mine=0"), (((0, 2), (), (), (), 0), "mine=0,2"),
                (((), (1, 2), (), (), 0), "theirs=1,2"), (((), (), (1,), (), 0), "kinds=1"), (((), (), (0, 1), (), 0), "kinds=0,1"),
                (((), (), (), (0, 1), 0), "seen=0,1"), (((), (), (), (), 1), "ahead"), (((), (), (), (), 2), "behind"),
                (((0, 1, 2), (2,), (0,), (1,), 1), "mine=0,1,2 theirs=2 kinds=0 seen=1 ahead"),
                (((1,), (), (1,), (), 2), "mine=1 kinds=1 behind")):
            self.assertEqual(shown(("leap", 1, (case,))), ["leap 1 " + words])
            self.assertEqual(shown(("fall", 0, (case, ALWAYS, case))), [f"fall 0 {words} or always or {words}"])
            self.assertEqual(shown(("marks", (ALWAYS, case), (0, 1, 2))), [f"marks always or {words} to 0 1 2"])

    def test_if(self):
        one, two = ("first", 0), ("mark", (1, 1, 1))
        self.assertEqual(shown(("if", (), (), ())), ["if"])
        self.assertEqual(shown(("if", (0,), (), ())), ["if 0"])
        self.assertEqual(shown(("if", (0, 2), (one,), ())), ["if 0 2", "  first 0"])
        self.assertEqual(shown(("if", (), (), (one,))), ["if", "else", "  first 0"])
        self.assertEqual(shown(("if", (1,), (one, two), (two, one))),
                         ["if 1", "  first 0", "  mark 1 1 1", "else", "  mark 1 1 1", "  first 0"])

    def test_whole_ones(self):
        self.assertEqual(show_book(WIDE).split("\n"), [
            "book 0 2 marks 3 rows 2 notes 2",
            "come", "  first 1", "  notes kinds=1 to 1 1 and 0 0",
            "deed 0 2", "  mark 1 2 0", "  if 1 2", "    up 0", "    leap 1 mine=0 theirs=1,2 kinds=0 seen=1 ahead",
            "  else", "    down 1", "    fall 0 behind or mine=2 kinds=1", "  last 0",
            "deed 1", "  pass 0 theirs=0,2 ahead or mine=1 seen=0", "  yield 1 kinds=0,1 seen=0,1 behind",
            "  marks kinds=1 ahead to 2 1 0", "  notes always to 1 0 and 0 1", "  leap 0 never",
            "deed", "  if",
            "deed 0 1 2"])
        self.assertEqual(show_book(NARROW).split("\n"), [
            "book 1 marks 2 rows 1 notes 3",
            "come", "  marks ahead to 1 0",
            "deed 0 1", "  notes behind or seen=2 ahead to 1 2 0 and 0 0 2", "  fall 0 mine=0",
            "deed 1", "  if 0 1", "    yield 0 never", "  else", "    first 0", "    last 0", "  pass 0 seen=0,2"])

    def test_the_argument_stays_and_equal_ones_give_equal_texts(self):
        before = lasting(WIDE)
        text = show_book(WIDE)
        show_book(SWAP)
        self.assertEqual(show_book(WIDE), text)
        self.assertEqual(lasting(WIDE), before)


class ShowRunTest(unittest.TestCase):

    def test_runs(self):
        self.assertEqual(show_run([]), "")
        self.assertEqual(show_run([(0, (0, 0))]), "come 0.0")
        self.assertEqual(show_run([(-1, (1, 9999))]), "go 1.9999")
        self.assertEqual(show_run([(1, (0, 10))]), "deed 1 0.10")
        run = [(0, (0, 5)), (0, (1, 0)), (5, (1, 0)), (-1, (0, 5)), (123456789, (0, 7))]
        before = lasting(run)
        self.assertEqual(show_run(run), "come 0.5\ncome 1.0\ndeed 5 1.0\ngo 0.5\ndeed 123456789 0.7")
        self.assertEqual(lasting(run), before)


if __name__ == "__main__":
    unittest.main()
