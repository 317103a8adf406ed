"""Promises [19] and [20]: books as objects."""

import unittest

from rebuiltby.bookchanges import joined, renamed, with_build, with_unlike
from rebuiltby.bookclasses import Book, Renamed, Weighted
from rebuiltby.booktexts import book_text
from tests.books import ALONE, BOOK, EMPTY, LINKED, MORE, NO_NAMES, NO_NUMBERS, OWN, PARTIES, SOURCES, BookCase
from tests.books import nested, random_book

TOLD = (('cc', 'tcc'),)
HEAVY = (('ann', 1), ('bob', 5), ('cy', 1))


class BookTest(BookCase):

    def assert_book(self, book, form):
        """The value is a Book, of just this class, with this form."""
        self.assertIs(type(book), Book)
        self.assert_same(book.form, form)

    def test_example(self):
        book = Book(SOURCES, PARTIES, (), OWN)
        changed = Renamed(SOURCES, PARTIES, (), OWN, files=(('x', 'w'),))
        found = [len(book + MORE[0]), OWN[1] in book, book <= book + MORE[0], len(book('x')), changed[0]]
        self.assert_same(found, [3, True, True, 2, ('ann', None, 'cc', (), 'w')])

    def test_made(self):
        self.assert_book(Book(), EMPTY)
        self.assert_book(Book(*ALONE), ALONE)
        self.assert_book(Book(SOURCES, PARTIES), (SOURCES, PARTIES, (), ()))
        self.assert_book(Book(builds=OWN, parties=PARTIES, sources=SOURCES, unlike=TOLD), (SOURCES, PARTIES, TOLD, OWN))
        for thing in NO_NAMES:
            if not isinstance(thing, tuple):
                self.assert_paper('shape', -1, Book, thing)
            elif thing != ():
                self.assert_paper('source', 0, Book, thing)
        self.assert_paper('shape', -1, Book, Book())
        self.assert_paper('shape', -1, Book, SOURCES, PARTIES, [], ())
        self.assert_paper('twice', 2, Book, SOURCES, PARTIES, (), OWN + OWN[:1])
        self.assert_paper('party', 0, Book, SOURCES, (('ann', True),))

    def test_properties(self):
        book = Book(*LINKED)
        self.assert_same((book.sources, book.parties, book.unlike, book.builds), LINKED)
        self.assert_same([book.form, book.files], [LINKED, ('a', 'k', 'l', 'n', 'o')])
        for name in ('sources', 'parties', 'unlike', 'builds', 'form', 'files'):
            self.assertRaises(AttributeError, setattr, book, name, ())
        self.assert_same(book.form, LINKED)

    def test_items(self):
        book = Book(*BOOK)
        self.assert_same([book[k] for k in range(5)], list(BOOK[3]))
        for k in NO_NUMBERS + (5, 10 ** 60, slice(0, 1), Book()):
            self.assert_not_usable('k', book.__getitem__, k)
        self.assert_not_usable('k', Book().__getitem__, 0)

    def test_in_and_len_and_iteration(self):
        book = Book(*BOOK)
        for build in BOOK[3]:
            self.assertIs(build in book, True)
        for thing in NO_NAMES + ('x', book, list(OWN[0]), ('ann', None, 'cc', (), 'y'), ('ann', None, 'cc', [], 'x'), OWN):
            self.assertIs(thing in book, False)
        self.assert_same([len(book), len(Book()), list(book), list(Book())], [5, 0, list(BOOK[3]), []])
        self.assert_same([list(book), tuple(book)], [list(BOOK[3]), BOOK[3]])

    def test_str(self):
        for form in (EMPTY, ALONE, LINKED):
            self.assert_same(str(Book(*form)), book_text(form))

    def test_call(self):
        book = Book(*BOOK)
        self.assert_same([book('x'), book(file='t'), book('ann')], [OWN + MORE[2:], MORE[:1], ()])
        for thing in NO_NAMES + (book,):
            self.assert_not_usable('file', book, thing)

    def test_equal(self):
        book = Book(*ALONE)
        heavy = Weighted(*ALONE, ('bob', 5))
        for other in (Book(*ALONE), Weighted(*ALONE), Renamed(*ALONE), Weighted(SOURCES, HEAVY, (), OWN, ('bob', 1))):
            self.assertIs(book == other, True)
            self.assertIs(other == book, True)
            self.assertIs(book != other, False)
        self.assertIs(heavy == Book(SOURCES, HEAVY, (), OWN), True)
        others = (Book(*BOOK), Book(SOURCES, PARTIES, TOLD, OWN), Book(SOURCES, PARTIES, (), OWN[::-1]), Book(), heavy)
        for other in others + NO_NAMES + (ALONE, list(ALONE), str(book)):
            self.assertIs(book == other, False)
            self.assertIs(other == book, False)
            self.assertIs(book != other, True)

    def test_at_most(self):
        book = Book(*ALONE)
        told = Book(SOURCES, PARTIES, TOLD, OWN)
        linked = Book(*LINKED)
        more = Book(*with_unlike(LINKED, 'app', 'cc'))
        self.assertEqual([linked <= linked, linked <= more, more <= linked], [True, True, False])
        for one, other in ((book, book), (told, told), (book, Book(*BOOK)), (book, told), (book, Weighted(*ALONE)), (Renamed(*ALONE), book),
                           (book, Book(SOURCES, PARTIES, TOLD, OWN[::-1])), (Book(), Book())):
            self.assertIs(one <= other, True)
            self.assertIs(other >= one, True)
        for one, other in ((Book(*BOOK), book), (told, book), (told, Book(*BOOK)), (book, Weighted(*ALONE, ('bob', 5))),
                           (Book(SOURCES), Book(SOURCES[:1])), (Book(), book), (Book((), PARTIES), book)):
            self.assertIs(one <= other, False)
        for other in NO_NAMES + (ALONE, BOOK):
            self.assertIs(book <= other, False)

    def test_plus(self):
        book = Book(*ALONE)
        for one in (book, Weighted(*ALONE), Renamed(*ALONE)):
            self.assert_book(one + MORE[0], with_build(ALONE, MORE[0]))
        self.assert_book(Weighted(*ALONE, ('bob', 5)) + MORE[0], (SOURCES, HEAVY, (), OWN + MORE[:1]))
        for thing in NO_NAMES + (book, 'x', OWN):
            self.assert_paper('build', 2, book.__add__, thing)
        self.assert_paper('twice', 2, book.__add__, OWN[0])
        self.assert_paper('by', 2, book.__add__, ('dan', None, 'cc', (), 'x'))
        self.assert_same(book.form, ALONE)

    def test_or(self):
        book, other = Book(*ALONE), Book(SOURCES, PARTIES, TOLD, MORE + OWN[:1])
        self.assert_book(book | other, (SOURCES, PARTIES, TOLD, OWN + MORE))
        self.assert_book(other | book, joined(other.form, ALONE))
        self.assert_book(Renamed(*ALONE) | Weighted(*BOOK), BOOK)
        for thing in NO_NAMES + (ALONE, Book(), Book(SOURCES, HEAVY), Weighted(*ALONE, ('ann', 2)), OWN[0]):
            self.assert_not_usable('other', book.__or__, thing)
        for seed in range(40):
            form = random_book(seed)
            half = len(form[3]) // 2
            one, other = Book(*form[:3], form[3][:half]), Book(form[0], form[1], (), form[3][half:])
            self.assert_book(one | other, form)

    def test_without(self):
        book = Renamed(*BOOK)
        for k in range(5):
            self.assert_book(book.without(k), BOOK[:3] + (BOOK[3][:k] + BOOK[3][k + 1:],))
        self.assert_book(Book(*ALONE).without(k=1), ALONE[:3] + (OWN[:1],))
        for k in NO_NUMBERS + (5,):
            self.assert_not_usable('k', book.without, k)

    def test_read(self):
        for form in (EMPTY, ALONE, LINKED[:1] + (PARTIES,) + LINKED[2:3] + ((),)):
            self.assert_book(Book.read(book_text(form)), form)
        self.assert_book(Book.read(text=''), EMPTY)
        self.assert_text(1, 2, Book.read, 'party b 1\nparty a 0')
        self.assert_text(0, 0, Book.read, '\n')
        self.assert_paper('party', 1, Book.read, 'party b 1\nparty a 1')
        self.assertIsInstance(vars(Book)['read'], classmethod)

    def test_plain(self):
        self.assert_book(Book.plain(), EMPTY)
        self.assert_book(Book.plain('bob', 'ann', 'cy'), ((), PARTIES, (), ()))
        self.assert_book(Book().plain('a'), ((), (('a', 1),), (), ()))
        for thing in NO_NAMES + (Book(),):
            self.assert_not_usable('names', Book.plain, thing, told_at=0)
            self.assert_not_usable('names', Book.plain, 'b', 'a', thing, 'b', told_at=2)
        self.assert_not_usable('names', Book.plain, 'b', 'a', 'b', None, told_at=2)
        self.assertIsInstance(vars(Book)['plain'], staticmethod)

    def test_values_that_are_given_stay(self):
        book = Book(*ALONE)
        for told in (book + MORE[0], book | Book(*BOOK), book.without(0), book('x'), str(book), book <= book):
            self.assertIsNot(told, book)
        self.assert_same([book.form, list(book), len(book)], [ALONE, list(OWN), 2])


class DerivedTest(BookCase):

    def test_weighted(self):
        book = Weighted(*ALONE, ('bob', 4), ('cy', 10 ** 60), ('bob', 5))
        self.assertIsInstance(book, Book)
        self.assert_same(book.parties, (('ann', 1), ('bob', 5), ('cy', 10 ** 60)))
        self.assert_same([book.told, book.form], [ALONE, (SOURCES, book.parties, (), OWN)])
        self.assert_same([Weighted(*ALONE).form, Weighted(*ALONE).told], [ALONE, ALONE])
        self.assert_same(Weighted(sources=SOURCES, parties=PARTIES, unlike=(), builds=OWN).form, ALONE)
        self.assert_same([len(book), OWN[0] in book, book[1], list(book)], [2, True, OWN[1], list(OWN)])

    def test_weights_that_are_not_possible(self):
        for thing in NO_NAMES + (('ann',), ('ann', 1, 1), ['ann', 1], ('dan', 1), ('cc', 1), ('ann', 0), ('ann', True)):
            self.assert_not_usable('weights', Weighted, *ALONE, thing, told_at=0)
            self.assert_not_usable('weights', Weighted, *ALONE, ('ann', 2), ('bob', 2), thing, None, told_at=2)
        for number in NO_NUMBERS:
            self.assert_not_usable('weights', Weighted, *ALONE, ('ann', number), told_at=0)

    def test_renamed(self):
        book = Renamed(*BOOK, files=(('x', 't'), ('t', 'x')))
        self.assertIsInstance(book, Book)
        self.assert_same([book.told, book.form], [BOOK, renamed(BOOK, files=(('x', 't'), ('t', 'x')))])
        self.assert_same([Renamed(*BOOK).form, Renamed(*BOOK, files=()).told], [BOOK, BOOK])
        self.assert_same(book.files, ('t', 'x', 'y'))
        for thing in NO_NAMES + ((('x', 'y'),), (('q', 'r'), ('q', 'r'))):
            if thing != ():
                self.assert_not_usable('files', Renamed, *BOOK, files=thing)
        self.assertRaises(TypeError, Renamed, *BOOK, ())

    def test_errors_of_book_come_first(self):
        self.assert_paper('shape', -1, Weighted, SOURCES, PARTIES, (), None, None)
        self.assert_paper('twice', 2, Weighted, SOURCES, PARTIES, (), OWN + OWN[:1], None)
        self.assert_paper('shape', -1, Renamed, SOURCES, PARTIES, None, (), files=None)
        self.assert_paper('by', 0, Renamed, SOURCES, (), (), OWN, files=(('x', 'x', 'x'),))

    def test_told_is_read_only(self):
        for book in (Weighted(*ALONE), Renamed(*ALONE)):
            self.assertIn('told', vars(type(book)))
            self.assertRaises(AttributeError, setattr, book, 'told', ())

    def test_deep_values(self):
        for thing in (nested('x', 30), nested('x', 30, list)):
            self.assertIs(thing in Renamed(*ALONE), False)
            self.assertIs(Weighted(*ALONE) == thing, False)


if __name__ == '__main__':
    unittest.main()
