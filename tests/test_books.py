"""[11]: what is a rulebook, a test, a thing, a tuple of a run, and what stands in a rulebook."""

import itertools
import unittest

from ownmoment.books import (
    deeds_in, is_book, is_integer, is_run_tuple, is_test, is_thing, kinds_in, let_by, statements_by, test_holds)
from ownmoment.errors import NoIndex
from tests import model
from tests.samples import (
    ALWAYS, ASK, BOOKS, LEAST, NARROW, SWAP, WIDE, any_values, chance_books, full_book, lasting, variants)

# The name begins as those of tests do; a loader of tests is not to take it for one.
holds = test_holds
del test_holds


class IntegersAndThingsTest(unittest.TestCase):

    def test_is_integer(self):
        for value in (0, 1, -1, 5, 10 ** 39, -10 ** 39):
            self.assertIs(is_integer(value), True)
        for value in any_values():
            self.assertIs(is_integer(value), type(value) is int)

    def test_is_thing(self):
        for value in ((0, 0), (1, 0), (0, 9999), (1, 9999)):
            self.assertIs(is_thing(value), True)
        for value in ((-1, 0), (2, 0), (0, -1), (0, 10000), (True, 0), (0, False), (0, True), [0, 0], (0,), (0, 0, 0),
                      ("0", 0), (0, None), ((0, 0),), (10 ** 39, 0), (0, 10 ** 39)):
            self.assertIs(is_thing(value), False, value)
        for value in any_values():
            self.assertIs(is_thing(value), model.ok_thing(value))
        for value in variants((1, 0)):
            self.assertIs(is_thing(value), model.ok_thing(value), value)

    def test_is_run_tuple(self):
        for value in ((-1, (0, 0)), (0, (0, 9999)), (1, (0, 5))):
            self.assertIs(is_run_tuple(SWAP, value), True)
        for value in ((-2, (0, 0)), (2, (0, 0)), (True, (0, 0)), (False, (0, 0)), (1, (1, 0)), (1, (0, False)), (1, [0, 0]),
                      [1, (0, 0)], (1,), (1, (0, 0), 0), (1, (0, 10000)), (1, 0), (None, (0, 0)), ("1", (0, 0))):
            self.assertIs(is_run_tuple(SWAP, value), False, value)
        self.assertIs(is_run_tuple(WIDE, (4, (1, 0))), True)
        self.assertIs(is_run_tuple(WIDE, (5, (1, 0))), False)
        self.assertIs(is_run_tuple(LEAST, (1, (0, 0))), False)
        for value in any_values():
            self.assertIs(is_run_tuple(WIDE, value), type(value) is tuple and value == (0, (0, 0)), value)
        for value in variants((1, (1, 1))):
            good = (type(value) is tuple and len(value) == 2 and model.ok_int(value[0], -1, 4)
                    and model.ok_thing(value[1]))
            self.assertIs(is_run_tuple(WIDE, value), good, value)


class BooksTest(unittest.TestCase):

    def check(self, value, good):
        self.assertIs(model.ok_book(value), good, value)
        self.assertIs(is_book(value), good, value)

    def test_good_ones(self):
        for book in BOOKS + (full_book(),):
            self.check(book, True)
        for book in chance_books(1, 300):
            self.check(book, True)

    def test_any_values(self):
        for value in any_values():
            self.check(value, False)

    def test_one_part_otherwise_at_each_depth(self):
        for book in BOOKS:
            many = [0, 0]
            before = lasting(book)
            for value in variants(book):
                good = model.ok_book(value)
                many[good] += 1
                self.assertIs(is_book(value), good, value)
            self.assertGreater(many[False], many[True])
            self.assertEqual(lasting(book), before)

    def test_a_truth_or_a_list_is_never_taken(self):
        def places(value):
            if type(value) is tuple:
                yield list(value)
                for at, part in enumerate(value):
                    for other in places(part):
                        yield value[:at] + (other,) + value[at + 1:]
            elif type(value) is int and value in (0, 1):
                yield bool(value)
        for book in BOOKS:
            for value in places(book):
                self.assertIs(is_book(value), False, value)

    def test_bounds_of_the_first_four(self):
        for at, low, high in ((1, 1, 5), (2, 1, 2), (3, 1, 6)):
            for number in range(-2, 9):
                value = LEAST[:at] + (number,) + LEAST[at + 1:]
                self.check(value, low <= number <= high)
        for begin in ((), (0,), (0, 0), (0, 0, 0), (1,), (-1,), (0, 1), 0):
            self.check((begin,) + LEAST[1:], begin in ((0,), (0, 0)))
        for marks in range(1, 6):
            self.check(((marks - 1,), marks) + LEAST[2:], True)
            self.check(((marks,), marks) + LEAST[2:], False)

    def test_let(self):
        def with_let(let, first=()):
            return ((0,), 3, 1, 1, ((first, ()), (let, ())))
        for let in ((), (0,), (2,), (0, 2), (0, 1, 2)):
            self.check(with_let(let), True)
        for let in ((3,), (-1,), (1, 0), (0, 0), (0, 1, 1), (0, 1, 2, 3), [0], (True,), ((0,),), None, 0):
            self.check(with_let(let), False)
        self.check(with_let((), (0,)), False)
        self.check(with_let((), [])[:4] + ((([], ()),),), False)

    def test_as_many_as_may_be_and_one_more(self):
        book = full_book()
        begin, marks, rows, notes, deeds = book
        self.check((begin, marks, rows, notes, deeds + (((), ()),)), False)
        self.check((begin, marks, rows, notes, ()), False)
        let, statements = deeds[1]
        for at in range(6):
            def put(entry):
                return (begin, marks, rows, notes, deeds[:at] + (entry,) + deeds[at + 1:])
            let = deeds[at][0]
            self.check(put((let, statements)), True)
            self.check(put((let, statements + (("first", 0),))), False)
            self.check(put((let, statements[1:])), True)
            word, some, then, other = statements[0]
            self.check(put((let, ((word, some, then + (("first", 0),), other),))), False)
            self.check(put((let, ((word, some, then, other + (("first", 0),)),))), False)
            self.check(put((let, ((word, some, then, other),))), True)
            _, row, test = then[-1]
            self.check(put((let, (("leap", row, test),))), True)
            self.check(put((let, (("leap", row, test + (ALWAYS,)),))), False)
            self.check(put((let, (("if", (), (("leap", row, test + (ALWAYS,)),), ()),))), False)

    def test_no_if_within_an_if(self):
        branch = (("if", (0,), (), ()),)
        for book, good in ((("if", (0,), (), ()), True), (("if", (0,), branch, ()), False), (("if", (0,), (), branch), False)):
            self.check(((0,), 1, 1, 1, (((), (book,)),)), good)

    def check_statement(self, statement, good, rows=1, sizes=((0, 0), 3, 2)):
        begin, marks, notes = sizes
        self.check((begin, marks, rows, notes, (((), ()), ((0,), (statement,)))), good)
        self.check((begin, marks, rows, notes, (((), (("if", (), (statement,), ()),)),)), good and statement[0] != "if")

    def test_words(self):
        for word in ("first", "last", "up", "down"):
            self.check_statement((word, 0), True)
            self.check_statement((word, 1), False)
            self.check_statement((word, 1), True, 2)
            self.check_statement((word, 2), False, 2)
            self.check_statement((word, -1), False, 2)
            self.check_statement((word, 0, ()), False)
            self.check_statement((word,), False)
        for word in ("pass", "yield", "leap", "fall"):
            self.check_statement((word, 0, ()), True)
            self.check_statement((word, 1, ()), False)
            self.check_statement((word, 1, (ALWAYS,)), True, 2)
            self.check_statement((word, 2, (ALWAYS,)), False, 2)
            self.check_statement((word, 0), False)
            self.check_statement((word, 0, (), ()), False)
        for word in ("", "FIRST", "First", "first ", "mark ", "else", "go", "come", "deed", "never"):
            self.check_statement((word, 0), False)
            self.check_statement((word, 0, ()), False)
            self.check_statement((word, (0, 1, 2)), False)
            self.check_statement((word,), False)
        for word in (None, 0, True, ("first",), NoIndex(0), ["mark"], b"first"):
            self.check_statement((word, 0), False)

    def test_tables(self):
        for table in ((0, 1, 2), (2, 2, 2), (0, 0, 0)):
            self.check_statement(("mark", table), True)
            self.check_statement(("marks", (), table), True)
        for table in ((0, 1), (0, 1, 2, 0), (0, 1, 3), (-1, 1, 2), [0, 1, 2], (0, True, 2), (), None):
            self.check_statement(("mark", table), False)
            self.check_statement(("marks", (), table), False)
        for table in ((0, 1), (1, 1), (0, 0)):
            self.check_statement(("notes", (), table, (0, 1)), True)
            self.check_statement(("notes", (), (0, 1), table), True)
        for table in ((0,), (0, 1, 1), (0, 2), (-1, 0), [0, 1], (False, 1), (), 0):
            self.check_statement(("notes", (), table, (0, 1)), False)
            self.check_statement(("notes", (), (0, 1), table), False)
        self.check_statement(("mark",), False)
        self.check_statement(("mark", (0, 1, 2), (0, 1, 2)), False)
        self.check_statement(("marks", (0, 1, 2)), False)
        self.check_statement(("marks", (), (0, 1, 2), ()), False)
        self.check_statement(("notes", (), (0, 1)), False)
        self.check_statement(("notes", (), (0, 1), (0, 1), (0, 1)), False)
        self.check_statement(("if", (), ()), False)
        self.check_statement(("if", (), (), (), ()), False)

    def test_sides(self):
        for side in (-1, 0, 1, 2, 3, True, False, None):
            test = (((), (), (), (), side),)
            is_side = type(side) is int and 0 <= side <= 2
            for word in ("pass", "yield", "leap", "fall"):
                self.check_statement((word, 0, test), is_side and side == 0)
                self.check_statement((word, 0, (ALWAYS,) + test), is_side and side == 0)
                for row in (0, 1):
                    self.check_statement((word, row, test), is_side, 2)
            for rows in (1, 2):
                self.check_statement(("marks", test, (0, 1, 2)), is_side, rows)
                self.check_statement(("notes", test, (0, 1), (0, 1)), is_side, rows)
            self.assertIs(is_test(SWAP, test), is_side)
            self.assertIs(is_test(WIDE, test), is_side)

    def test_a_second_kind_in_tests(self):
        for begin, kinds, good in (((0,), (1,), False), ((0,), (0,), True), ((0, 0), (0, 1), True), ((0, 0), (2,), False)):
            test = (((), (), kinds, (), 0),)
            self.check((begin, 1, 1, 1, (((), (("leap", 0, test),)),)), good)
            self.assertIs(is_test((begin, 1, 1, 1, (((), ()),)), test), good)


class TestsTest(unittest.TestCase):

    def test_is_test(self):
        tests = [(), (ALWAYS,), (ALWAYS,) * 6, (((0, 2), (1,), (0, 1), (1,), 2),), (((0,), (), (), (0, 1), 1), ALWAYS)]
        for test in tests:
            self.assertIs(is_test(WIDE, test), True, test)
            for value in variants(test):
                good = model.ok_test(value, 2, 3, 2, (0, 1, 2))
                self.assertIs(is_test(WIDE, value), good, value)
        self.assertIs(is_test(WIDE, (ALWAYS,) * 7), False)

    def test_marks_kinds_and_notes_of_the_rulebook(self):
        for at, sizes in ((0, (2, 3)), (1, (2, 3)), (2, (1, 2)), (3, (3, 2))):
            for book, size in zip((NARROW, WIDE), sizes):
                for number in range(7):
                    case = list(ALWAYS)
                    case[at] = (number,)
                    self.assertIs(is_test(book, (tuple(case),)), number < size, (book, case))

    def test_any_values(self):
        for value in any_values():
            self.assertIs(is_test(WIDE, value), value == () and type(value) is tuple, value)

    def test_holds_case_by_case(self):
        empty_or_not = (((), (1,), (0, 2)), ((), (0,), (1, 2)), ((), (0,), (1,)), ((), (1,), (0, 2)), (0, 1, 2))
        asked = list(itertools.product((0, 1), (0, 1, 2), (0, 1), (0, 1), (0, 1, 2)))
        for case in itertools.product(*empty_or_not):
            for mine, theirs, kind, seen, side in asked:
                good = model.fits(case, mine, theirs, kind, seen, side)
                self.assertIs(holds((case,), mine, theirs, kind, seen, side), good, (case, mine, theirs, kind, seen, side))

    def test_each_part_alone_can_refuse(self):
        case = ((1,), (2,), (0,), (3,), 1)
        self.assertIs(holds((case,), 1, 2, 0, 3, 1), True)
        for asked in ((0, 2, 0, 3, 1), (1, 1, 0, 3, 1), (1, 2, 1, 3, 1), (1, 2, 0, 2, 1), (1, 2, 0, 3, 2), (1, 2, 0, 3, 0)):
            self.assertIs(holds((case,), *asked), False, asked)

    def test_none_one_and_several_cases(self):
        for side in (0, 1, 2):
            self.assertIs(holds((), 0, 0, 0, 0, side), False)
            self.assertIs(holds((ALWAYS,), 4, 3, 1, 5, side), True)
        two = (((0,), (), (), (), 0), ((), (), (), (2,), 2))
        self.assertIs(holds(two, 0, 1, 1, 1, 0), True)
        self.assertIs(holds(two, 1, 1, 1, 2, 2), True)
        self.assertIs(holds(two, 1, 1, 1, 2, 1), False)
        self.assertIs(holds(two, 1, 1, 1, 1, 2), False)


class PartsTest(unittest.TestCase):

    def test_how_many(self):
        self.assertEqual([kinds_in(book) for book in BOOKS], [1, 1, 1, 1, 1, 2, 1])
        self.assertEqual([deeds_in(book) for book in BOOKS], [2, 2, 2, 2, 1, 5, 3])
        self.assertEqual((kinds_in(full_book()), deeds_in(full_book())), (2, 6))

    def test_each_deed(self):
        for book in BOOKS + (full_book(),):
            for deed, (let, statements) in enumerate(book[4]):
                self.assertEqual(let_by(book, deed), let)
                self.assertEqual(statements_by(book, deed), statements)
                self.assertIs(type(let_by(book, deed)), tuple)
        self.assertEqual(let_by(ASK, 0), ())
        self.assertEqual(let_by(ASK, 1), (0, 1))

    def test_no_other_value_is_a_deed(self):
        for book in (LEAST, SWAP, WIDE):
            for value in any_values() + [5, 6, 10 ** 39, (1,), [1], "1", {1: 1}]:
                if type(value) is int and 0 <= value < len(book[4]):
                    continue
                for ask in (let_by, statements_by):
                    with self.assertRaises(NoIndex) as caught:
                        ask(book, value)
                    self.assertIs(caught.exception.index, value)


if __name__ == "__main__":
    unittest.main()
