"""[10]: the errors keep what they are made of."""

import unittest

from ownmoment import errors
from ownmoment.errors import (
    Bothered, Endless, IsThere, MomentError, NoCommand, NoIndex, NoOrder, NoText, NotLet, NotThere, Nothing, NoWay,
    TooMany, Unlike, Wrong)
from ownmoment.player import Player
from tests.samples import SWAP, lasting

FIELDS = {
    Bothered: ("run", "some", "at"), Endless: (), IsThere: ("thing",), NoCommand: (), NoIndex: ("index",),
    NoOrder: ("pair",), NoText: ("line",), NotLet: ("deed", "thing"), NotThere: ("thing",), Nothing: (), NoWay: (),
    TooMany: ("most",), Unlike: (), Wrong: ("place",),
}


def values():
    """Triples of values, new ones each time."""
    return [
        (1, 2, 3), ([1], {2: [3]}, (4,)), (True, False, None), (10 ** 39, -10 ** 39, 10 ** 6000), ("", "a\nb", "~"),
        ([[]], [{}], ([],)), (Wrong([0]), MomentError("x"), Player(SWAP)), ((), {}, []), (None, None, None),
        ({"a": []}, [None, True], 0),
    ]


class ErrorsTest(unittest.TestCase):

    def test_all_of_them_are_there(self):
        found = [one for one in vars(errors).values() if isinstance(one, type) and issubclass(one, Exception)]
        self.assertEqual(len(found), 15)
        self.assertEqual({*FIELDS, MomentError}, set(found))

    def test_direct_subclasses(self):
        self.assertEqual(MomentError.__bases__, (ValueError,))
        for kind in FIELDS:
            self.assertEqual(kind.__bases__, (MomentError,), kind)
            self.assertTrue(issubclass(kind, ValueError))
            for other in FIELDS:
                self.assertEqual(issubclass(kind, other), kind is other)

    def test_they_keep_the_very_objects(self):
        for kind, names in FIELDS.items():
            for given in values():
                error = kind(*given[:len(names)])
                for name, value in zip(names, given):
                    self.assertIs(getattr(error, name), value, (kind, name))

    def test_also_when_these_are_changed_afterwards(self):
        for kind, names in FIELDS.items():
            for at, name in enumerate(names):
                given = [[0], [1], [2]]
                error = kind(*given[:len(names)])
                given[at].append({"k": 1})
                self.assertIs(getattr(error, name), given[at])
                self.assertEqual(getattr(error, name), [at, {"k": 1}])
                table = {"k": []}
                given = [0, 0, 0]
                given[at] = table
                error = kind(*given[:len(names)])
                table["k"].append(5)
                table["l"] = error
                self.assertIs(getattr(error, name), table)
                self.assertEqual(getattr(error, name)["k"], [5])

    def test_two_of_one_class_keep_their_own(self):
        for kind, names in FIELDS.items():
            made = [(given, kind(*given[:len(names)])) for given in values()]
            for given, error in made:
                for name, value in zip(names, given):
                    self.assertIs(getattr(error, name), value)

    def test_they_are_raised_with_their_fields(self):
        for kind, names in FIELDS.items():
            for base in (kind, MomentError, ValueError):
                given = [[0], [1], [2]][:len(names)]
                with self.assertRaises(base) as caught:
                    raise kind(*given)
                self.assertIs(type(caught.exception), kind)
                for name, value in zip(names, given):
                    self.assertIs(getattr(caught.exception, name), value)

    def test_they_take_as_many_as_their_signature_has(self):
        for kind, names in FIELDS.items():
            if names:
                for many in {0, len(names) - 1, len(names) + 1} - {len(names)}:
                    with self.assertRaises(TypeError):
                        kind(*[0] * many)

    def test_what_was_given_stays_as_it_was(self):
        for kind, names in FIELDS.items():
            for given in values():
                if isinstance(given[2], int) and given[2] > 10 ** 100:
                    continue
                before = lasting(given)
                kind(*given[:len(names)])
                self.assertEqual(lasting(given), before)


if __name__ == "__main__":
    unittest.main()
