"""A desk: a rulebook that is played, and asked for its verdict, by commands."""

from ownmoment.bothers import bother_of
from ownmoment.books import deeds_in, kinds_in
from ownmoment.errors import IsThere, NoCommand, NoText, NotLet, NotThere, Nothing, TooMany, Wrong
from ownmoment.player import Player
from ownmoment.reader import read_book, read_number, read_thing
from ownmoment.texts import show_run, show_thing

# How many words there are of a command, the first one counted.
LENGTHS = {"come": 2, "go": 2, "deed": 3, "undo": 1, "row": 2, "verdict": 1}


class Desk:
    """Reads a rulebook, and plays it."""

    def __init__(self, text):
        self._book = read_book(text)
        self._player = Player(self._book)

    def book_now(self):
        """The rulebook."""
        return self._book

    def do(self, command):
        """Does what the command says, and returns the lines of the answer."""
        if not isinstance(command, str):
            raise Wrong(0)
        words = [word for word in command.split(" ") if word]
        try:
            return self._answer(words)
        except NoCommand:
            return ["refused NoCommand"]
        except NoText:
            return ["refused NoText"]
        except IsThere:
            return ["refused IsThere"]
        except NotThere:
            return ["refused NotThere"]
        except NotLet:
            return ["refused NotLet"]
        except Nothing:
            return ["refused Nothing"]
        except TooMany:
            return ["refused TooMany"]

    def _answer(self, words):
        if not words or LENGTHS.get(words[0]) != len(words):
            raise NoCommand()
        name = words[0]
        if name == "verdict":
            return self._verdict()
        if name == "row":
            row = self._number(words[1], 0, self._book[2])
            return [" ".join([show_thing(x) for x in self._player.row_now(row)])]
        if name == "undo":
            self._player.undo()
        elif name == "deed":
            deed = self._number(words[1], 1, deeds_in(self._book))
            self._player.do(deed, self._thing(words[2]))
        else:
            self._player.do(0 if name == "come" else -1, self._thing(words[1]))
        return ["done"]

    def _verdict(self):
        found = bother_of(self._book)
        if found is None:
            return ["unbothered"]
        run, some, _ = found
        return ["bothered", *show_run(run).split("\n"), "of " + " ".join([show_thing(x) for x in some])]

    def _number(self, word, low, limit):
        number = read_number(word)
        if number is None or not low <= number < limit:
            raise NoText(1)
        return number

    def _thing(self, word):
        thing = read_thing(word)
        if thing is None or thing[0] >= kinds_in(self._book):
            raise NoText(1)
        return thing
