import random
import unittest

from leaprules.errors import InvalidEntries, InvalidNumber, NothingToUndo, TooLarge
from leaprules.lists import Exceptions, FirstMatch
from leaprules.live import FirstBook, RuleBook
from tests.helpers import GREAT, NO_INTEGERS, NO_NUMBERS, RaisingCase, decided, objects

BOOKS = {RuleBook: Exceptions, FirstBook: FirstMatch}
NO_DIVISORS = NO_NUMBERS + [GREAT, GREAT + 1, 10 ** 59] + NO_INTEGERS
NO_BOOLEANS = [thing for thing in objects() if thing is not True and thing is not False] + [0, 1, -1, 4, [], "+"]


class Plain:
    """What a book keeps, as the list of all calls and marks that are not undone."""

    def __init__(self):
        self.log = []

    def entries(self):
        kept = []
        for what in self.log:
            if what[0] == "put":
                kept.append(what[1])
            elif what[0] == "out":
                del kept[what[1]]
        return kept

    def calls(self):
        return [place for place, what in enumerate(self.log) if what[0] != "mark"]

    def marks(self):
        return [place for place, what in enumerate(self.log) if what[0] == "mark"]

    def undo(self):
        if not self.calls():
            raise NothingToUndo("there is no call")
        del self.log[self.calls()[-1]:]

    def undo_to(self, index):
        del self.log[self.marks()[index] + 1:]

    def twin(self):
        copied = Plain()
        copied.log = list(self.log)
        return copied


def behind_each_undo(kept, now):
    """The entries now, and behind each undo until there is nothing to undo, with the number of marks there."""
    found = []
    for _ in range(1000):
        found.append((now(kept), marks_of(kept)))
        try:
            kept.undo()
        except NothingToUndo:
            return found
    raise AssertionError("there is always something to undo")


def marks_of(kept):
    return len(kept.marks()) if isinstance(kept, Plain) else kept.twin().mark()


def told(kept):
    """All that can be found out about a book, or about what is kept beside it; it does not change."""
    def now(one):
        return one.entries() if isinstance(one, Plain) else one.now().entries
    found = [behind_each_undo(kept.twin(), now)]
    for index in range(marks_of(kept)):
        copied = kept.twin()
        copied.undo_to(index)
        found.append(behind_each_undo(copied, now))
    return found


class BookCase(RaisingCase):
    def assert_same(self, book, plain):
        self.assertEqual(book.now().entries, plain.entries())
        self.assertEqual(len(book), len(plain.entries()))
        self.assertEqual(told(book), told(plain))

    def put_all(self, book, entries):
        for divisor, is_in in entries:
            self.assertIsNone(book.put(divisor, is_in))


class Putting(BookCase):
    def test_new_books(self):
        for made, kind in BOOKS.items():
            book = made()
            self.assertEqual(len(book), 0)
            self.assertEqual(book.now(), kind([]))
            self.assertIs(book.ask(4), False)
            self.assertEqual(book.mark(), 0)

    def test_first_book_is_a_subclass(self):
        self.assertTrue(issubclass(FirstBook, RuleBook))

    def test_entries_stand_in_their_order(self):
        for made, kind in BOOKS.items():
            book, entries = made(), []
            for entry in [(4, True), (100, False), (4, True), (1, False), (GREAT - 1, True), (4, False)]:
                self.assertIsNone(book.put(*entry))
                entries.append(entry)
                self.assertEqual(book.now(), kind(entries))
                self.assertEqual(len(book), len(entries))

    def test_by_name(self):
        book = RuleBook()
        self.assertIsNone(book.put(divisor=4, is_in=True))
        self.assertIsNone(book.put(is_in=False, divisor=100))
        self.assertEqual(book.now().entries, [(4, True), (100, False)])
        self.assertIs(book.ask(number=8), True)
        self.assertIsNone(book.take_out(index=1))
        self.assertEqual(book.mark(), 0)
        self.assertIsNone(book.undo_to(index=0))
        self.assertEqual(book.now().entries, [(4, True)])

    def test_wrong_divisors(self):
        for made in BOOKS:
            for many in (0, 3, 100):
                book = made()
                self.put_all(book, [(4, True)] * many)
                for divisor in NO_DIVISORS:
                    for is_in in (True, False, 1, None, [], "+"):
                        self.assert_raises_exactly(InvalidNumber, book.put, divisor, is_in)
                        self.assert_raises_exactly(InvalidNumber, book.put, is_in=is_in, divisor=divisor)
                self.assertEqual(len(book), many)

    def test_what_is_no_boolean(self):
        for made in BOOKS:
            for many in (0, 3, 100):
                book = made()
                self.put_all(book, [(4, True)] * many)
                for thing in NO_BOOLEANS:
                    self.assert_raises_exactly(InvalidEntries, book.put, 4, thing)
                    self.assert_raises_exactly(InvalidEntries, book.put, is_in=thing, divisor=GREAT - 1)
                self.assertEqual(len(book), many)

    def test_a_hundred_entries(self):
        for made in BOOKS:
            book = made()
            for number in range(1, 101):
                self.assertIsNone(book.put(number, number % 2 == 0))
            before = told(book)
            for _ in range(3):
                self.assert_raises_exactly(TooLarge, book.put, 101, True)
            self.assertEqual(told(book), before)
            book.take_out(0)
            self.assertIsNone(book.put(101, True))
            self.assertEqual(book.now().entries[98:], [(100, True), (101, True)])
            self.assert_raises_exactly(TooLarge, book.put, 1, False)
            book.undo()
            self.assertEqual(len(book), 99)


class Taking(BookCase):
    def test_each_index(self):
        for made in BOOKS:
            for index in range(5):
                book, entries = made(), [(number, True) for number in (4, 4, 6, 8, 10)]
                self.put_all(book, entries)
                self.assertIsNone(book.take_out(index))
                del entries[index]
                self.assertEqual(book.now().entries, entries)

    def test_wrong_indices(self):
        for made in BOOKS:
            for many in (0, 1, 3):
                book = made()
                self.put_all(book, [(4, True), (6, False), (8, True)][:many])
                book.mark()
                before = told(book)
                for index in [-1, -2, -many - 1, many, many + 1, 100, 10 ** 59, -10 ** 59] + NO_INTEGERS:
                    self.assert_raises_exactly(InvalidNumber, book.take_out, index)
                    self.assert_raises_exactly(InvalidNumber, book.take_out, index=index)
                self.assertEqual(told(book), before)


class Asking(BookCase):
    def test_numbers(self):
        for made, kind in BOOKS.items():
            book, entries = made(), []
            for entry in [(4, True), (6, False), (8, True), (3, True), (1, False), (5, True)]:
                book.put(*entry)
                entries.append(entry)
                for number in list(range(1, 40)) + [10 ** 59, 10 ** 400]:
                    self.assertIs(book.ask(number), decided(kind, entries, number))

    def test_wrong_numbers(self):
        for made in BOOKS:
            book = made()
            for _ in range(2):
                for number in NO_NUMBERS + NO_INTEGERS:
                    self.assert_raises_exactly(InvalidNumber, book.ask, number)
                    self.assert_raises_exactly(InvalidNumber, book.ask, number=number)
                book.put(1, True)


class Now(BookCase):
    def test_lists_do_not_change(self):
        for made, kind in BOOKS.items():
            book = made()
            self.put_all(book, [(4, True), (100, False)])
            now = book.now()
            self.assertIs(now.__class__, kind)
            book.put(400, True)
            book.take_out(0)
            self.assertEqual(now, kind([(4, True), (100, False)]))
            book.undo_to(book.mark())
            book.undo()
            book.undo()
            book.undo()
            self.assertEqual(now.entries, [(4, True), (100, False)])
            self.assertEqual(book.now().entries, [(4, True)])
            now.entries.append((3, True))
            book.now().entries.append((3, True))
            self.assertEqual(len(book), 1)
            self.assertIs(book.now() == book.now(), True)
            self.assertIsNot(book.now(), book.now())

    def test_the_same_numbers(self):
        for made in BOOKS:
            book = made()
            self.put_all(book, [(2, True), (3, False), (6, True)])
            self.assertEqual([book.ask(number) for number in range(1, 20)],
                             [book.now()(number) for number in range(1, 20)])
            self.assertEqual([book.now().form()(n) for n in range(1, 20)], [book.ask(n) for n in range(1, 20)])


class Undoing(BookCase):
    def test_put_and_take_out(self):
        for made in BOOKS:
            book = made()
            self.put_all(book, [(4, True), (100, False), (400, True)])
            book.take_out(1)
            self.assertIsNone(book.undo())
            self.assertEqual(book.now().entries, [(4, True), (100, False), (400, True)])
            self.assertIsNone(book.undo())
            self.assertEqual(book.now().entries, [(4, True), (100, False)])
            book.put(3, True)
            book.undo()
            book.undo()
            book.undo()
            self.assertEqual(book.now().entries, [])

    def test_nothing_to_undo(self):
        for made in BOOKS:
            book = made()
            self.assert_raises_exactly(NothingToUndo, book.undo)
            self.assertEqual(book.mark(), 0)
            self.assert_raises_exactly(NothingToUndo, book.undo)
            self.assertEqual(book.mark(), 1)
            book.put(4, True)
            book.undo()
            self.assert_raises_exactly(NothingToUndo, book.undo)
            self.assertEqual(book.mark(), 2)
            book.undo_to(0)
            self.assert_raises_exactly(NothingToUndo, book.undo)
            self.assertEqual(book.mark(), 1)

    def test_calls_with_an_error_are_not_undone(self):
        for made in BOOKS:
            book = made()
            self.put_all(book, [(4, True), (100, False)])
            for call in (lambda: book.put(0, True), lambda: book.put(4, 1), lambda: book.take_out(2),
                         lambda: book.ask(0), lambda: book.undo_to(0)):
                with self.assertRaises((InvalidNumber, InvalidEntries)):
                    call()
            book.undo()
            self.assertEqual(book.now().entries, [(4, True)])

    def test_asking_is_not_undone(self):
        book = RuleBook()
        book.put(4, True)
        book.ask(4)
        book.now()
        book.twin()
        len(book)
        book.undo()
        self.assertEqual(len(book), 0)


class Marks(BookCase):
    def test_numbers(self):
        for made in BOOKS:
            book = made()
            self.assertEqual([book.mark() for _ in range(3)], [0, 1, 2])
            book.put(4, True)
            self.assertEqual(book.mark(), 3)
            self.assertIsNone(book.undo_to(1))
            self.assertEqual(len(book), 0)
            self.assertEqual([book.mark(), book.mark()], [2, 3])

    def test_undo_removes_the_marks_behind_the_undone_call_alone(self):
        for made in BOOKS:
            book = made()
            book.mark()
            book.put(4, True)
            book.mark()
            book.mark()
            book.put(6, True)
            book.mark()
            book.mark()
            book.undo()
            # Marks 1 and 2 were made before the undone call, also though nothing is behind them now.
            self.assertEqual(book.mark(), 3)
            book.undo_to(2)
            self.assertEqual(book.now().entries, [(4, True)])
            book.undo()
            self.assertEqual(book.mark(), 1)
            self.assert_raises_exactly(InvalidNumber, book.undo_to, 2)
            self.assert_raises_exactly(NothingToUndo, book.undo)
            self.assertEqual(book.mark(), 2)

    def test_undo_to_keeps_its_mark(self):
        for made in BOOKS:
            book = made()
            book.put(4, True)
            first = book.mark()
            self.put_all(book, [(6, True), (8, True)])
            second = book.mark()
            book.take_out(0)
            self.assertIsNone(book.undo_to(first))
            self.assertEqual(book.now().entries, [(4, True)])
            self.assert_raises_exactly(InvalidNumber, book.undo_to, second)
            book.put(10, False)
            self.assertIsNone(book.undo_to(first))
            self.assertIsNone(book.undo_to(first))
            self.assertEqual(book.now().entries, [(4, True)])
            book.undo()
            self.assertEqual(book.now().entries, [])
            self.assert_raises_exactly(InvalidNumber, book.undo_to, first)

    def test_undo_to_a_mark_that_nothing_is_behind(self):
        book = RuleBook()
        book.put(4, True)
        self.assertEqual([book.mark(), book.mark(), book.mark()], [0, 1, 2])
        book.undo_to(1)
        self.assertEqual(book.now().entries, [(4, True)])
        self.assertEqual(book.mark(), 2)

    def test_calls_before_a_mark_are_undone_by_undo(self):
        book = FirstBook()
        self.put_all(book, [(4, True), (6, True)])
        book.mark()
        book.put(8, True)
        book.undo_to(0)
        book.undo()
        self.assertEqual(book.now().entries, [(4, True)])
        self.assertEqual(book.mark(), 0)

    def test_wrong_marks(self):
        for made in BOOKS:
            for many in (0, 1, 3):
                book = made()
                for _ in range(many):
                    book.put(4, True)
                    book.mark()
                book.put(6, True)
                before = told(book)
                for index in [-1, -2, -many - 1, many, many + 1, 100, 10 ** 59, -10 ** 59] + NO_INTEGERS:
                    self.assert_raises_exactly(InvalidNumber, book.undo_to, index)
                    self.assert_raises_exactly(InvalidNumber, book.undo_to, index=index)
                self.assertEqual(told(book), before)


class Twins(BookCase):
    def test_the_same_class_and_all_that_it_keeps(self):
        for made, kind in BOOKS.items():
            book = made()
            self.put_all(book, [(4, True), (100, False)])
            book.mark()
            book.take_out(0)
            twin = book.twin()
            self.assertIs(twin.__class__, made)
            self.assertIs(twin.now().__class__, kind)
            self.assertEqual(told(twin), told(book))
            self.assertIsNot(twin, book)
            self.assertIs(twin.twin().__class__, made)

    def test_they_go_their_own_ways(self):
        for made in BOOKS:
            book = made()
            book.put(4, True)
            book.mark()
            book.put(6, False)
            twin = book.twin()
            before = told(book)
            twin.put(8, True)
            twin.mark()
            twin.take_out(0)
            twin.undo_to(0)
            twin.undo()
            self.assertEqual(told(book), before)
            self.assertEqual(len(twin), 0)
            self.assertEqual(twin.mark(), 0)
            twin = book.twin()
            kept = told(twin)
            book.take_out(1)
            book.mark()
            book.undo()
            book.undo()
            self.assertEqual(book.now().entries, [(4, True)])
            book.undo()
            self.assert_raises_exactly(NothingToUndo, book.undo)
            self.assertEqual(told(twin), kept)

    def test_compared_by_identity(self):
        for made in BOOKS:
            book = made()
            book.put(4, True)
            for other in [made(), book.twin(), book.now(), RuleBook(), FirstBook(), [], [(4, True)], None] + objects():
                self.assertIs(book == other, False)
                self.assertIs(book != other, True)
                self.assertIs(other == book, False)
            self.assertTrue(book == book and not book != book)


class LongSequences(BookCase):
    def step(self, source, book, plain):
        """Do the same with both; a call that has to raise an error is left out beside the book."""
        call = source.choice(["put"] * 4 + ["out"] * 2 + ["undo"] * 3 + ["mark"] * 3 + ["undo_to"])
        if call == "put":
            entry = (source.randint(1, 12), source.random() < 0.5)
            if len(plain.entries()) == 100:
                return self.assert_raises_exactly(TooLarge, book.put, *entry)
            self.assertIsNone(book.put(*entry))
            plain.log.append(("put", entry))
        elif call == "out":
            index = source.randint(-1, len(plain.entries()))
            if not 0 <= index < len(plain.entries()):
                return self.assert_raises_exactly(InvalidNumber, book.take_out, index)
            self.assertIsNone(book.take_out(index))
            plain.log.append(("out", index))
        elif call == "undo":
            if not plain.calls():
                return self.assert_raises_exactly(NothingToUndo, book.undo)
            self.assertIsNone(book.undo())
            plain.undo()
        elif call == "mark":
            self.assertEqual(book.mark(), len(plain.marks()))
            plain.log.append(("mark",))
        else:
            index = source.randint(-1, len(plain.marks()))
            if not 0 <= index < len(plain.marks()):
                return self.assert_raises_exactly(InvalidNumber, book.undo_to, index)
            self.assertIsNone(book.undo_to(index))
            plain.undo_to(index)

    def test_against_a_plain_list(self):
        source = random.Random(31)
        for made, kind in list(BOOKS.items()) * 20:
            book, plain = made(), Plain()
            for _ in range(60):
                self.step(source, book, plain)
                self.assert_same(book, plain)
                number = source.randint(1, 24)
                self.assertIs(book.ask(number), decided(kind, plain.entries(), number))

    def test_twins_against_plain_lists(self):
        source = random.Random(32)
        for made in list(BOOKS) * 10:
            kept = [(made(), Plain())]
            for _ in range(100):
                book, plain = source.choice(kept)
                self.step(source, book, plain)
                if len(kept) < 4 and source.random() < 0.1:
                    kept.append((book.twin(), plain.twin()))
                for one, other in kept:
                    self.assertEqual(one.now().entries, other.entries())
                    self.assertEqual(one.twin().mark(), len(other.marks()))
            for one, other in kept:
                self.assert_same(one, other)

    def test_two_hundred_calls_and_more(self):
        source = random.Random(33)
        for made in BOOKS:
            for _ in range(3):
                book, plain = made(), Plain()
                for _ in range(400):
                    self.step(source, book, plain)
                self.assert_same(book, plain)

    def test_two_hundred_calls_that_are_undone(self):
        for made in BOOKS:
            book = made()
            for number in range(1, 101):
                book.put(number, True)
            for _ in range(50):
                book.take_out(0)
            for many in range(149, -1, -1):
                book.undo()
                self.assertEqual(len(book), many if many <= 100 else 200 - many)
            self.assert_raises_exactly(NothingToUndo, book.undo)

    def test_equal_calls_return_equal_results(self):
        for made in BOOKS:
            one, other = made(), made()
            for book in (one, other):
                self.put_all(book, [(4, True), (6, False)])
                book.mark()
                book.put(8, True)
                book.undo_to(0)
                book.take_out(0)
            self.assertEqual(told(one), told(other))


if __name__ == "__main__":
    unittest.main()
