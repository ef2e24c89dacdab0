"""[71]: a rulebook that is played by commands."""

import random
import unittest

from ownmoment.bothers import bother_of
from ownmoment.desk import Desk
from ownmoment.errors import IsThere, NotLet, NotThere, Nothing, NoText, TooMany, Wrong
from ownmoment.player import Player
from ownmoment.reader import read_book
from ownmoment.texts import show_book, show_run
from tests import model
from tests.machine_books import APART_BOOK, COME_BOOK, ELDER_BOOK, KINDS_BOOK, KNOWN
from tests.samples import ASK, ASK_TEXT, BOOKS, FRONT, JUST_OVER, LEAST, SWAP, WIDE, any_values, chance_books, full_book, lasting, spoil

UP = "book 0 marks 1 rows 1 notes 1\ncome\ndeed 0\n  up 0"


def shown(thing):
    return f"{thing[0]}.{thing[1]}"


class Plain:
    """A desk by the words of the document."""

    def __init__(self, book):
        self.book, self.player = book, Player(book)

    def number(self, word, low, high):
        good = 1 <= len(word) <= 9 and all(sign in "0123456789" for sign in word) and (word == "0" or word[0] != "0")
        return good and low <= int(word) <= high

    def thing(self, word):
        parts = word.split(".")
        return len(parts) == 2 and self.number(parts[0], 0, len(self.book[0]) - 1) and self.number(parts[1], 0, 9999)

    def do(self, command):
        words = [word for word in command.split(" ") if word != ""]
        forms = {"come": "T", "go": "T", "deed": "DT", "undo": "", "row": "R", "verdict": ""}
        if not words or words[0] not in forms or len(words) - 1 != len(forms[words[0]]):
            return ["refused NoCommand"]
        checks = {"T": self.thing, "D": lambda word: self.number(word, 1, len(self.book[4]) - 1), "R": lambda word: self.number(word, 0, self.book[2] - 1)}
        if not all(checks[form](word) for form, word in zip(forms[words[0]], words[1:])):
            return ["refused NoText"]
        if words[0] == "row":
            return [" ".join(map(shown, self.player.row_now(int(words[1]))))]
        try:
            if words[0] == "verdict":
                found = bother_of(self.book)
                return ["unbothered"] if found is None else ["bothered", *show_run(found[0]).split("\n"), "of " + " ".join(map(shown, found[1]))]
            if words[0] == "undo":
                self.player.undo()
            else:
                deed = {"come": 0, "go": -1}.get(words[0]) if words[0] != "deed" else int(words[1])
                self.player.do(deed, tuple(map(int, words[-1].split("."))))
        except (IsThere, NotThere, NotLet, Nothing, TooMany) as error:
            return ["refused " + type(error).__name__]
        return ["done"]


def stand(desk, book):
    """What can be asked of a desk."""
    return [desk.book_now()] + [desk.do(f"row {row}") for row in range(book[2])]


class DeskTest(unittest.TestCase):

    def test_of_the_document(self):
        desk = Desk(UP)
        self.assertEqual([desk.do("come 0.1"), desk.do("come 0.2"), desk.do("come 0.3"), desk.do("deed 1 0.3"), desk.do("row 0")],
                         [["done"], ["done"], ["done"], ["done"], ["0.1 0.3 0.2"]])
        self.assertEqual(desk.do("verdict"), ["bothered", "come 0.0", "come 0.1", "come 0.2", "deed 1 0.2", "of 0.0 0.2"])

    def test_by_hand(self):
        desk = Desk(show_book(KINDS_BOOK))
        self.assertEqual(desk.book_now(), KINDS_BOOK)
        self.assertEqual(desk.do("row 0"), [""])
        self.assertEqual([desk.do(command) for command in ("come 0.5", "come 1.0", "come 0.9999", "row 0", "deed 1 0.5", "row 0", "go 0.9999", "row 0")],
                         [["done"]] * 3 + [["0.9999 0.5 1.0"], ["done"], ["0.5 0.9999 1.0"], ["done"], ["0.5 1.0"]])
        self.assertEqual([desk.do(command) for command in ("undo", "undo", "row 0", "verdict", "undo", "undo", "undo", "undo", "row 0")],
                         [["done"]] * 2 + [["0.9999 0.5 1.0"], ["unbothered"]] + [["done"]] * 3 + [["refused Nothing"], [""]])

    def test_both_rows(self):
        desk = Desk(show_book(APART_BOOK))
        self.assertEqual([desk.do(command) for command in ("come 0.1", "come 0.2", "deed 1 0.2", "row 0", "row 1", "deed 2 0.2", "row 1", "row 2")],
                         [["done"]] * 3 + [["0.2 0.1"], ["0.1 0.2"], ["done"], ["0.2 0.1"], ["refused NoText"]])

    def test_refused(self):
        desk = Desk(show_book(ELDER_BOOK))
        self.assertEqual([desk.do(command) for command in ("go 0.1", "deed 1 0.1", "come 0.1", "come 0.1", "deed 2 0.1", "deed 1 0.1", "deed 1 0.1")],
                         [["refused NotThere"], ["refused NotThere"], ["done"], ["refused IsThere"], ["refused NotLet"], ["done"], ["refused NotLet"]])
        # No deed, or no row, or no kind, of the rulebook.
        for command in ("deed 0 0.1", "deed 3 0.1", "deed -1 0.1", "deed 1 1.1", "come 1.0", "come 2.0", "go 1.1", "row 1", "row -1", "come 0.10000", "come 0.99999",
                        "deed x 0.1", "deed 1 x", "deed 0.1 1", "deed 01 0.1", "come 00.1", "come 0.01", "row 00", "come 0", "come .1", "come 0.", "come 0..1",
                        "come 0.1.0", "come 0,1", "come +0.1", "come 0.-1", "row +0", "row 0x0", "row zero", "come #", "go 0.1#", "deed # 0.1", "row 0#",
                        "come 0.1\n", "row \n0", "row 0\n", "deed 1\n 0.1", "come " + "1" * 19000, "come 0." + "1" * 19000, "row " + "0" * 19000, "deed 1000000000 0.1",
                        "come 0.0000000000", "row 1000000000"):
            self.assertEqual(desk.do(command), ["refused NoText"], command[:40])
        # What is no command at all, also where the words are none either.
        for command in ("", " ", "   ", "comes 0.1", "Come 0.1", "COME 0.1", "come", "come 0.1 0.2", "come x y", "go", "go 0.1 x", "deed", "deed 1", "deed 0.1", "deed 1 0.1 0.1",
                        "undo 1", "undo x", "undo undo", "row", "row 0 0", "row x y", "verdict 0", "verdict #", "#", "# come 0.1", "come 0.1 #", "come 0.1 # no", "undo#",
                        "verdict\n", "\n", "\nundo", "undo\nundo", "come\n0.1", "x" * 19000, "come " * 4000, "quit", "book 0", "do", "rows 0", "0.1", "refused NoText"):
            self.assertEqual(desk.do(command), ["refused NoCommand"], command[:40])
        self.assertEqual(desk.do("row 0"), ["0.1"])
        self.assertEqual([desk.do("undo"), desk.do("undo"), desk.do("undo")], [["done"], ["done"], ["refused Nothing"]])

    def test_the_order_of_refusals(self):
        desk = Desk(UP)
        # Too few words ahead of a bad one, a bad one ahead of what the Player says.
        self.assertEqual(desk.do("deed x"), ["refused NoCommand"])
        self.assertEqual(desk.do("go 7.7 0.1"), ["refused NoCommand"])
        self.assertEqual(desk.do("deed 2 0.1"), ["refused NoText"])
        self.assertEqual(desk.do("go 1.1"), ["refused NoText"])
        self.assertEqual(desk.do("deed 1 0.1"), ["refused NotThere"])

    def test_blanks(self):
        desk = Desk(UP)
        self.assertEqual([desk.do(command) for command in ("  come 0.1", "come   0.2", "come 0.3   ", "  deed  1   0.3  ", " row  0 ", " undo ", "   verdict")][:6],
                         [["done"]] * 4 + [["0.1 0.3 0.2"], ["done"]])
        self.assertEqual(desk.do("   verdict  ")[0], "bothered")

    def test_too_many(self):
        desk = Desk(show_book(JUST_OVER[0][1]))
        self.assertEqual(desk.do("verdict"), ["refused TooMany"])
        self.assertEqual(desk.do("come 0.0"), ["done"])
        self.assertEqual(desk.do("row 0"), ["0.0"])

    def test_verdicts(self):
        seen = set()
        for book in [book for book, _, _ in KNOWN] + list(BOOKS) + chance_books(511, 40, rows=1, marks=2, notes=1):
            desk = Desk(show_book(book))
            found = desk.do("verdict")
            self.assertEqual(found, Plain(book).do("verdict"))
            seen.add(found[0])
            if found[0] == "bothered":
                # The run can be done at the desk, and each line of it is a command.
                self.assertTrue(all(desk.do(line) == ["done"] for line in found[1:-1]))
                self.assertEqual(found[-1].split(" ")[0], "of")
        self.assertEqual(seen, {"bothered", "unbothered", "refused TooMany"})

    def test_no_text(self):
        for text in ("", "\n\n", "book", UP + "\n  down", UP.replace("come", "comes"), "book 0 marks 1 rows 1 notes 1", UP + "\nverdict", "# " + UP, "x" * 19000, ASK_TEXT[1:]):
            with self.assertRaises(NoText) as wanted:
                read_book(text)
            with self.assertRaises(NoText) as caught:
                Desk(text)
            self.assertEqual(caught.exception.line, wanted.exception.line)
        self.assertEqual(Desk(UP.replace("come", "come # those that do")).book_now(), SWAP)

    def test_any_values(self):
        desk = Desk(UP)
        desk.do("come 0.1")
        for value in any_values():
            if isinstance(value, str):
                self.assertEqual(desk.do(value), Plain(SWAP).do(value))
                self.assertRaises(NoText, Desk, value)
                continue
            for call in (lambda: Desk(value), lambda: desk.do(value), lambda: desk.do([value]), lambda: Desk((value,))):
                with self.assertRaises(Wrong) as caught:
                    call()
                self.assertEqual(caught.exception.place, 0)
        self.assertEqual(desk.do("row 0"), ["0.1"])

    def test_books(self):
        for book in BOOKS + (full_book(), COME_BOOK, LEAST, FRONT, ASK, WIDE):
            self.assertEqual(Desk(show_book(book)).book_now(), book)

    def test_many_commands(self):
        chance = random.Random(512)
        seen = set()
        for book in [ELDER_BOOK, KINDS_BOOK, APART_BOOK] + chance_books(513, 40):
            desk, plain = Desk(show_book(book)), Plain(book)
            words = ["come", "go", "deed", "undo", "row", "0.1", "0.2", "1.1", "1.2", "0.2", "1", "2", "0", "#", "x", "0.10000", "01"]
            for _ in range(60):
                command = chance.choice([
                    f"come {chance.randrange(2)}.{chance.randrange(3)}", f"come 0.{chance.randrange(3)}", f"go 0.{chance.randrange(3)}", "undo",
                    f"deed {chance.randrange(5)} {chance.randrange(2)}.{chance.randrange(3)}", f"deed 1 0.{chance.randrange(3)}", f"row {chance.randrange(3)}",
                    " ".join(chance.choice(words) for _ in range(chance.randrange(5)))])
                if chance.random() < .2:
                    command = command.replace(" ", "  ") + " "
                before = lasting(stand(desk, book))
                found = desk.do(command)
                self.assertEqual(found, plain.do(command), command)
                if found[0].startswith("refused"):
                    self.assertEqual(lasting(stand(desk, book)), before)
                    seen.add(found[0])
                told = lasting(stand(desk, book))
                spoil(found)
                self.assertEqual(lasting(stand(desk, book)), told)
            self.assertEqual(desk.book_now(), book)
        self.assertEqual(seen, {"refused " + name for name in ("NoCommand", "NoText", "IsThere", "NotThere", "NotLet", "Nothing")})


if __name__ == "__main__":
    unittest.main()
